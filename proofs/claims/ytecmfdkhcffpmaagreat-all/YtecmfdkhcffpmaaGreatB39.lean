/- PureA3, StE. -/
import Derived.Test.YtecmfdkhcffpmaaGreatB38
import Derived.Test.YtecmfdkhcffpmaaGreatB36
import Derived.Test.YtecmfdkhcffpmaaGreatB11
namespace Go.Proofs.YtecmfdkhcffpmaaGreat
open Go.RowKit
set_option linter.unusedVariables false
set_option linter.unusedSimpArgs false
set_option linter.unusedSectionVars false
set_option maxHeartbeats 8000000
set_option maxRecDepth 100000
section
open Mc
theorem QO (hd off:Bool)(op h l:Nat):(pq hd off op h).testBit l=(op.testBit l||(!hd&&!off&&h.testBit l)):=by
 unfold pq
 cases hd<;>cases off<;>simp
theorem QS (hd:Bool)(tk t l:Nat):(pu hd tk t).testBit l=(tk.testBit l||(hd&&t.testBit l)):=by
 unfold pu
 cases hd<;>simp
theorem QT (k:Kp3)(l m:Nat):∀z:Ef,(iK z k).T l m=(z.T l m||k.L.any (fun r=>r.h.testBit l&&(tkP k.b r.p r.h).testBit m)):=by
 unfold iK
 induction k.L with
 | nil=>intro z;simp
 | cons r L ih=>intro z;rw[List.foldl_cons,ih];simp[su,cK,Bool.or_assoc]
theorem OP (k:Kp3)(l:Nat):∀z:Ef,(iK z k).op.testBit l=(z.op.testBit l||k.L.any (fun r=>!k.hd&&!r.off&&r.h.testBit l)):=by
 unfold iK
 induction k.L with
 | nil=>intro z;simp
 | cons r L ih=>intro z;rw[List.foldl_cons,ih];simp[su,QO,Bool.or_assoc]
theorem OQ (k:Kp3)(l:Nat):∀z:Ef,(iK z k).tk.testBit l=(z.tk.testBit l||k.L.any (fun r=>k.hd&&(tkP k.b r.p r.h).testBit l)):=by
 unfold iK
 induction k.L with
 | nil=>intro z;simp
 | cons r L ih=>intro z;rw[List.foldl_cons,ih];simp[su,QS,Bool.or_assoc]
theorem QU (l m:Nat)(K:List Kp3):∀z:Ef,(K.foldl iK z).T l m=(z.T l m||K.any (fun k=>k.L.any (fun r=>r.h.testBit l&&(tkP k.b r.p r.h).testBit m))):=by
 induction K with
 | nil=>intro z;simp
 | cons k K ih=>intro z;rw[List.foldl_cons,ih,QT,List.any_cons,Bool.or_assoc]
theorem OU (l:Nat)(K:List Kp3):∀z:Ef,(K.foldl iK z).op.testBit l=(z.op.testBit l||K.any (fun k=>k.L.any (fun r=>!k.hd&&!r.off&&r.h.testBit l))):=by
 induction K with
 | nil=>intro z;simp
 | cons k K ih=>intro z;rw[List.foldl_cons,ih,OP,List.any_cons,Bool.or_assoc]
theorem OV (l:Nat)(K:List Kp3):∀z:Ef,(K.foldl iK z).tk.testBit l=(z.tk.testBit l||K.any (fun k=>k.L.any (fun r=>k.hd&&(tkP k.b r.p r.h).testBit l))):=by
 induction K with
 | nil=>intro z;simp
 | cons k K ih=>intro z;rw[List.foldl_cons,ih,OQ,List.any_cons,Bool.or_assoc]
def Gm (hd:Bool)(b:List UInt8)(l m:Nat):Prop:=∃s:St3,Rch hd b s/\s.2.1.testBit l=true/\(tkP b s.1 s.2.1).testBit m=true
def zU (hd:Bool)(b:List UInt8)(l:Nat):Prop:=hd=false/\∃s:St3,Rch hd b s/\s.2.2=false/\s.2.1.testBit l=true
def zM (hd:Bool)(b:List UInt8)(m:Nat):Prop:=hd=true/\∃s:St3,Rch hd b s/\(tkP b s.1 s.2.1).testBit m=true
def Eg (its:List Wd.It)(l m:Nat):Prop:=(∃i,i<its.length/\Gm (isH its i) (ah its i) l m)\/((∃i,i<its.length/\zU (isH its i) (ah its i) l)/\(∃j,j<its.length/\zM (isH its j) (ah its j) m))
structure KOf (its:List Wd.It)(K:List Kp3):Prop where
 len:K.length=its.length
 at_:∀(i:Nat) (k:Kp3),K[i]?=some k->k.hd=isH its i/\k.b=ah its i/\∀s,Rch k.hd k.b s↔∃r∈k.L,r.st=s
theorem KOf.any {its:List Wd.It}{K:List Kp3}(h:KOf its K)(P:Kp3->Bool)(Q:Nat->Prop)(hq:∀i k,K[i]?=some k->(P k=true↔Q i)):K.any P=true↔∃i,i<its.length/\Q i:=by
 rw[List.any_eq_true]
 constructor
 ·rintro ⟨k,hk,e⟩
  obtain ⟨i,hi⟩:=List.getElem?_of_mem hk
  exact ⟨i,by rw[<-h.len];exact (List.getElem?_eq_some_iff.1 hi).1,(hq i k hi).1 e⟩
 ·rintro ⟨i,hi,e⟩
  have hi':i<K.length:=by rw[h.len];exact hi
  exact ⟨K[i],List.getElem_mem hi',(hq i K[i] (List.getElem?_eq_getElem hi')).2 e⟩
theorem zy {k:Kp3}(h:∀s,Rch k.hd k.b s↔∃r∈k.L,r.st=s)(P:Rc->Bool)(Q:St3->Prop)(hq:∀r:Rc,P r=true↔Q r.st):k.L.any P=true↔∃s:St3,Rch k.hd k.b s/\Q s:=by
 rw[List.any_eq_true]
 constructor
 ·rintro ⟨r,hr,e⟩
  exact ⟨r.st,(h _).2 ⟨r,hr,rfl⟩,(hq r).1 e⟩
 ·rintro ⟨s,hs,e⟩
  obtain ⟨r,hr,rfl⟩:=(h s).1 hs
  exact ⟨r,hr,(hq r).2 e⟩
theorem MS {its:List Wd.It}{K:List Kp3}(h:KOf its K)(l m:Nat):jh K l m=true↔Eg its l m:=by
 unfold jh cK l7
 rw[QU,OU,OV]
 simp only[Nat.zero_testBit,Bool.false_or,Bool.or_eq_true,Bool.and_eq_true]
 refine or_congr ?_ (and_congr ?_ ?_)
 ·refine h.any _ (fun i=>Gm (isH its i) (ah its i) l m) (fun i k hk=>?_)
  obtain ⟨e1,e2,e3⟩:=h.at_ i k hk
  rw[<-e1,<-e2]
  exact zy e3 _ (fun s=>s.2.1.testBit l=true/\(tkP k.b s.1 s.2.1).testBit m=true) (fun r=>by simp[Rc.st])
 ·refine h.any _ (fun i=>zU (isH its i) (ah its i) l) (fun i k hk=>?_)
  obtain ⟨e1,e2,e3⟩:=h.at_ i k hk
  rw[<-e1,<-e2]
  unfold zU
  rw[zy e3 _ (fun s=>k.hd=false/\s.2.2=false/\s.2.1.testBit l=true) (fun r=>by simp[Rc.st,and_assoc])]
  constructor
  ·rintro ⟨s,a,b,c⟩;exact ⟨b,s,a,c⟩
  ·rintro ⟨b,s,a,c⟩;exact ⟨s,a,b,c⟩
 ·refine h.any _ (fun i=>zM (isH its i) (ah its i) m) (fun i k hk=>?_)
  obtain ⟨e1,e2,e3⟩:=h.at_ i k hk
  rw[<-e1,<-e2]
  unfold zM
  rw[zy e3 _ (fun s=>k.hd=true/\(tkP k.b s.1 s.2.1).testBit m=true) (fun r=>by simp[Rc.st])]
  constructor
  ·rintro ⟨s,a,b,c⟩;exact ⟨b,s,a,c⟩
  ·rintro ⟨b,s,a,c⟩;exact ⟨s,a,b,c⟩
def AtC (b:List UInt8)(c p:Nat):Prop:=(atB b p=114\/atB b p=119)/\aW b p=(c:Int)
theorem Eo (b:List UInt8)(c:Nat)(L:List Rc)(r:Rc):cZ b c (L++[r])=mJ b c (cZ b c L) r:=by simp[cZ]
theorem R8 (b:List UInt8)(c x:Nat)(R:List Rc):(cZ b c R.reverse).ei x=true↔∃r∈R,AtC b c r.p/\hn r.h=x:=by
 induction R with
 | nil=>simp[cZ]
 | cons r R ih =>
  rw[List.reverse_cons,Eo]
  unfold mJ
  by_cases h:(atB b r.p=114\/atB b r.p=119)/\aW b r.p=(c:Int)
  ·rw[if_pos h]
   by_cases hx:x=hn r.h
   ·simp only[hx,if_true,true_iff]
    exact ⟨r,by simp,h,rfl⟩
   ·simp only[hx,if_false,ih]
    constructor
    ·rintro ⟨q,hq,e⟩;exact ⟨q,by simp[hq],e⟩
    ·rintro ⟨q,hq,e⟩
     rcases List.mem_cons.1 hq with rfl|hq
     ·exact absurd e.2.symm hx
     ·exact ⟨q,hq,e⟩
  ·rw[if_neg h,ih]
   constructor
   ·rintro ⟨q,hq,e⟩;exact ⟨q,by simp[hq],e⟩
   ·rintro ⟨q,hq,e⟩
    rcases List.mem_cons.1 hq with rfl|hq
    ·exact absurd e.1 h
    ·exact ⟨q,hq,e⟩
theorem R9 (b:List UInt8)(c x:Nat)(R:List Rc):(cZ b c R.reverse).wr x=true↔∃r∈R,(AtC b c r.p/\atB b r.p=119)/\hn r.h=x:=by
 induction R with
 | nil=>simp[cZ]
 | cons r R ih =>
  rw[List.reverse_cons,Eo]
  unfold mJ
  by_cases h:(atB b r.p=114\/atB b r.p=119)/\aW b r.p=(c:Int)
  ·rw[if_pos h]
   by_cases hx:x=hn r.h
   ·simp only[hx,if_true,Bool.or_eq_true,decide_eq_true_eq]
    rw[<-hx,ih]
    constructor
    ·rintro (⟨q,hq,e⟩|e)
     ·exact ⟨q,by simp[hq],e⟩
     ·exact ⟨r,by simp,⟨h,e⟩,hx.symm⟩
    ·rintro ⟨q,hq,e⟩
     rcases List.mem_cons.1 hq with rfl|hq
     ·exact Or.inr e.1.2
     ·exact Or.inl ⟨q,hq,e⟩
   ·simp only[hx,if_false,ih]
    constructor
    ·rintro ⟨q,hq,e⟩;exact ⟨q,by simp[hq],e⟩
    ·rintro ⟨q,hq,e⟩
     rcases List.mem_cons.1 hq with rfl|hq
     ·exact absurd e.2.symm hx
     ·exact ⟨q,hq,e⟩
  ·rw[if_neg h,ih]
   constructor
   ·rintro ⟨q,hq,e⟩;exact ⟨q,by simp[hq],e⟩
   ·rintro ⟨q,hq,e⟩
    rcases List.mem_cons.1 hq with rfl|hq
    ·exact absurd e.1.1 h
    ·exact ⟨q,hq,e⟩
theorem rT (b:List UInt8)(c x:Nat)(L:List Rc):(cZ b c L).ei x=true↔∃r∈L,AtC b c r.p/\hn r.h=x:=by
 have:=R8 b c x L.reverse
 rw[List.reverse_reverse] at this
 simpa using this
theorem vG (b:List UInt8)(c x:Nat)(L:List Rc):(cZ b c L).wr x=true↔∃r∈L,(AtC b c r.p/\atB b r.p=119)/\hn r.h=x:=by
 have:=R9 b c x L.reverse
 rw[List.reverse_reverse] at this
 simpa using this
def pz (h1:Bool)(b1:List UInt8)(h2:Bool)(b2:List UInt8)(c:Nat):Prop:=∃s t:St3,Rch h1 b1 s/\Rch h2 b2 t/\(AtC b1 c s.1/\atB b1 s.1=119)/\AtC b2 c t.1/\s.2.1 &&& t.2.1=0
structure qR (k:Kp3):Prop where
 all:∀s,Rch k.hd k.b s↔∃r∈k.L,r.st=s
 low:∀r∈k.L,r.h<64
theorem yu {k o:Kp3}(hk:qR k)(ho:qR o)(c:Nat):jH (cZ k.b c k.L) (cZ o.b c o.L)=true↔pz k.hd k.b o.hd o.b c\/pz o.hd o.b k.hd k.b c:=by
 unfold jH
 simp only[List.any_eq_true,List.mem_range,Bool.and_eq_true,decide_eq_true_eq,Bool.or_eq_true]
 constructor
 ·rintro ⟨x,hx,y,hy,⟨⟨h1,h2⟩,h3⟩,h4⟩
  rw[rT] at h1 h2
  obtain ⟨r,hr,e1,e2⟩:=h1
  obtain ⟨q,hq,e3,e4⟩:=h2
  rcases h4 with h4|h4
  ·rw[vG] at h4
   obtain ⟨r',hr',e5,e6⟩:=h4
   refine Or.inl ⟨r'.st,q.st,(hk.all _).2 ⟨r',hr',rfl⟩,(ho.all _).2 ⟨q,hq,rfl⟩,e5,e3,?_⟩
   exact (vS r'.h (hk.low r' hr') q.h (ho.low q hq)).1 (by rw[e6,e4];exact h3)
  ·rw[vG] at h4
   obtain ⟨q',hq',e5,e6⟩:=h4
   refine Or.inr ⟨q'.st,r.st,(ho.all _).2 ⟨q',hq',rfl⟩,(hk.all _).2 ⟨r,hr,rfl⟩,e5,e1,?_⟩
   refine (vS q'.h (ho.low q' hq') r.h (hk.low r hr)).1 ?_
   rw[e6,e2,Nat.and_comm];exact h3
 ·rintro (⟨s,t,hs,ht,h1,h2,h3⟩ | ⟨s,t,hs,ht,h1,h2,h3⟩)
  ·obtain ⟨r,hr,rfl⟩:=(hk.all s).1 hs
   obtain ⟨q,hq,rfl⟩:=(ho.all t).1 ht
   refine ⟨hn r.h,nJ _ (hk.low r hr),hn q.h,nJ _ (ho.low q hq),⟨⟨?_,?_⟩,?_⟩,Or.inl ?_⟩
   ·rw[rT];exact ⟨r,hr,h1.1,rfl⟩
   ·rw[rT];exact ⟨q,hq,h2,rfl⟩
   ·exact (vS r.h (hk.low r hr) q.h (ho.low q hq)).2 h3
   ·rw[vG];exact ⟨r,hr,h1,rfl⟩
  ·obtain ⟨r,hr,rfl⟩:=(hk.all t).1 ht
   obtain ⟨q,hq,rfl⟩:=(ho.all s).1 hs
   refine ⟨hn r.h,nJ _ (hk.low r hr),hn q.h,nJ _ (ho.low q hq),⟨⟨?_,?_⟩,?_⟩,Or.inr ?_⟩
   ·rw[rT];exact ⟨r,hr,h2,rfl⟩
   ·rw[rT];exact ⟨q,hq,h1.1,rfl⟩
   ·refine (vS r.h (hk.low r hr) q.h (ho.low q hq)).2 ?_
    rw[Nat.and_comm];exact h3
   ·rw[vG];exact ⟨q,hq,h1,rfl⟩
def Race (its:List Wd.It)(c:Nat):Prop:=∃i j,i<its.length/\j<its.length/\(i=j->isH its i=true)/\pz (isH its i) (ah its i) (isH its j) (ah its j) c
theorem MU {its:List Wd.It}{K:List Kp3}(h:KOf its K)(hok:∀k∈K,qR k)(c n:Nat)(hn:n<=K.length):ja c K n=true↔∃i j,i<n/\j<n/\(i=j->isH its i=true)/\pz (isH its i) (ah its i) (isH its j) (ah its j) c:=by
 induction n with
 | zero=>simp[ja]
 | succ n ih =>
  have hn':n<K.length:=by omega
  have hk:K[n]?=some K[n]:=List.getElem?_eq_getElem hn'
  rw[CZ hk,Bool.or_eq_true,ih (by omega)]
  unfold wo
  obtain ⟨e1,e2,e3⟩:=h.at_ n _ hk
  have ok1:=hok _ (List.getElem_mem hn')
  simp only[Bool.or_eq_true,Bool.and_eq_true,yu ok1 ok1,or_self]
  have hany:(K.take n).any (fun o=>jH (cZ K[n].b c K[n].L) (cZ o.b c o.L))=true↔∃i,i<n/\(pz (isH its n) (ah its n) (isH its i) (ah its i) c\/pz (isH its i) (ah its i) (isH its n) (ah its n) c):=by
   rw[List.any_eq_true]
   constructor
   ·rintro ⟨o,ho,e⟩
    obtain ⟨i,hi⟩:=List.getElem?_of_mem ho
    have hi1:i<n:=by have:=(List.getElem?_eq_some_iff.1 hi).1;simp at this;omega
    rw[List.getElem?_take,if_pos hi1] at hi
    obtain ⟨f1,f2,f3⟩:=h.at_ i _ hi
    rw[yu ok1 (hok o (List.mem_of_getElem? hi)),e1,e2,f1,f2] at e
    exact ⟨i,hi1,e⟩
   ·rintro ⟨i,hi1,e⟩
    have hi':i<K.length:=by omega
    have hi:K[i]?=some K[i]:=List.getElem?_eq_getElem hi'
    obtain ⟨f1,f2,f3⟩:=h.at_ i _ hi
    refine ⟨K[i],List.mem_of_getElem? (i:=i) (by rw[List.getElem?_take,if_pos hi1];exact hi),?_⟩
    rw[yu ok1 (hok _ (List.getElem_mem hi')),e1,e2,f1,f2]
    exact e
  rw[hany,e1,e2]
  constructor
  ·rintro (⟨i,j,hi,hj,a,b⟩ | ⟨a,b⟩ | ⟨i,hi,b|b⟩)
   ·exact ⟨i,j,by omega,by omega,a,b⟩
   ·exact ⟨n,n,by omega,by omega,fun _=>a,b⟩
   ·exact ⟨n,i,by omega,by omega,fun e=>by omega,b⟩
   ·exact ⟨i,n,by omega,by omega,fun e=>by omega,b⟩
  ·rintro ⟨i,j,hi,hj,a,b⟩
   by_cases h1:i=n
   ·by_cases h2:j=n
    ·subst h1;subst h2;exact Or.inr (Or.inl ⟨a rfl,b⟩)
    ·subst h1;exact Or.inr (Or.inr ⟨j,by omega,Or.inl b⟩)
   ·by_cases h2:j=n
    ·subst h2;exact Or.inr (Or.inr ⟨i,by omega,Or.inr b⟩)
    ·exact Or.inl ⟨i,j,by omega,by omega,a,b⟩
theorem OW {its:List Wd.It}{K:List Kp3}(h:KOf its K)(hok:∀k∈K,qR k)(c:Nat):iN c K=true↔Race its c:=by
 unfold iN Race
 rw[MU h hok c _ (Nat.le_refl _),h.len]
theorem Sb {its:List Wd.It}{K:List Kp3}(h:KOf its K)(k i p:Nat)(hi:i<its.length)(hk:k≠0):kdP K k i p=true↔oK (isH its i) (ah its i) k p:=by
 have hi':i<K.length:=by rw[h.len];exact hi
 have he:K[i]?=some K[i]:=List.getElem?_eq_getElem hi'
 obtain ⟨f1,f2,f3⟩:=h.at_ i _ he
 unfold kdP
 rw[he,<-f1,<-f2]
 simp only[decide_eq_true_eq]
 exact RY _ _ _ f3 p k (by omega)
theorem FB {its:List Wd.It}{K:List Kp3}(h:KOf its K)(i:Nat)(hi:i<its.length):jy K i=(ah its i).length+1:=by
 have hi':i<K.length:=by rw[h.len];exact hi
 have he:K[i]?=some K[i]:=List.getElem?_eq_getElem hi'
 obtain ⟨f1,f2,f3⟩:=h.at_ i _ he
 unfold jy
 rw[he,<-f2]
theorem JF (P Q:Nat->Nat->Nat->Bool)(N M:Nat->Nat)(k m:Nat)(hN:∀i,i<m->N i=M i)(h:∀i,i<m->∀p,p<N i->P k i p=Q k i p):dU P N k m=dU Q M k m:=by
 induction m with
 | zero=>rfl
 | succ m ih=>rw[rA,rA,ih (fun i hi=>hN i (by omega)) (fun i hi=>h i (by omega)),I6 _ _ _ _ _ (h m (by omega)),hN m (by omega)]
theorem xD (P Q:Nat->Nat->Nat->Bool)(N M:Nat->Nat)(m n:Nat)(hN:∀i,i<m->N i=M i)(h:∀k,k<n->∀i,i<m->∀p,p<N i->P (k+1) i p=Q (k+1) i p):bZ P N m n=bZ Q M m n:=by
 induction n with
 | zero=>rfl
 | succ n ih=>rw[rC,rC,ih (fun k hk=>h k (by omega)),JF P Q N M (n+1) m hN (h n (by omega))]
noncomputable def l8 (its:List Wd.It):List Rp:=open Classical in bZ (fun k i p=>decide (oK (isH its i) (ah its i) k p)) (fun i=>(ah its i).length+1) its.length 5
noncomputable def bT (its:List Wd.It):Tb:=open Classical in fun l m=>decide (Eg its l m)
noncomputable def jW (its:List Wd.It):List Rp:=open Classical in eF (fun c=>decide (Race its c)) 4
noncomputable def bF (its:List Wd.It):List Rp:=l8 its++dP (fwK (bT its) 6) 6++jW its
theorem qw {b:Bool}{p:Prop}[Decidable p](h:b=true↔p):b=decide p:=by
 by_cases hp:p
 ·rw[h.2 hp];simp[hp]
 ·simp only[hp,decide_false]
  cases b
  ·rfl
  ·exact absurd (h.1 rfl) hp
open Classical in
theorem Ep {its:List Wd.It}{K:List Kp3}(h:KOf its K):jh K=bT its:=by
 funext l m
 exact qw (MS h l m)
open Classical in
theorem KU {its:List Wd.It}{K:List Kp3}(h:KOf its K)(hok:∀k∈K,qR k):zh K=bF its:=by
 unfold zh bF
 rw[Ep h]
 congr 1
 ·congr 1
  unfold l8
  rw[h.len]
  refine xD _ _ _ _ _ _ (fun i hi=>FB h i hi) (fun k hk i hi p hp=>?_)
  exact qw (Sb h (k+1) i p hi (by omega))
 ·refine CS _ _ _ (fun c hc=>?_)
  exact qw (OW h hok c)
end
section
open Mc
theorem Tryz.infoKnown:(Tryz.prog.info? 127).map (fun i=>(i.zero,i.size,i.bytes))=some (some (.agg #[.bool false,.bool false,.string ⟨#[]⟩,.slice none 0 0,.slice none 0 0]),5,80):=by kernel_rfl
structure Aj (its:List Wd.It)(K:List Kn):Prop where
 len:K.length=its.length
 at_:∀(i:Nat) (k:Kn),K[i]?=some k->k.hd=isH its i/\k.s=Wd.mkS (ah its i)
def kp (k:Kn):Kp3:=⟨k.hd,k.s.data.toList,k.L⟩
theorem Aj.kof {w:World}{v:Value}{its:List Wd.It}{K:List Kn}(h:Aj its K)(ha:lZ w v K):KOf its (K.map kp)/\∀k∈K.map kp,qR k:=by
 refine ⟨⟨by rw[List.length_map,h.len],fun i k hk=>?_⟩,fun k hk=>?_⟩
 ·rw[List.getElem?_map] at hk
  cases hq:K[i]? with
  | none=>rw[hq] at hk;cases hk
  | some x =>
   rw[hq] at hk
   cases hk
   obtain ⟨e1,e2⟩:=h.at_ i x hq
   refine ⟨e1,?_,fun s=>(ha.each x (List.mem_of_getElem? hq)).fin.all s⟩
   show x.s.data.toList=_
   rw[e2];exact Wd.fM _
 ·obtain ⟨x,hx,rfl⟩:=List.mem_map.1 hk
  have hi:=ha.each x hx
  exact ⟨fun s=>hi.fin.all s,fun r hr=>(hi.fin.ok hi.gb hr).1⟩
structure LkI (w w':World)(its:List Wd.It)(v:Value)(K:List Kn):Prop where
 own:w'.ownsRow w.heap.size 127 5 v K.length (K.flatMap knV)
 each:∀k∈K,kS w' k/\(∀j,k.v.ownBlock=some j->v.ownBlock≠some j)
 at_:∀(i:Nat) (k:Kn),K[i]?=some k->k.hd=isH its i/\k.s=Wd.mkS (ah its i)
 bel:Below w.heap.size w w'
theorem fQ {w:World}{base:Nat}{t:TypeId}{n m:Nat}{v:Value}{xs:List Value}(h:w.ownsRow base t n v m xs){j:Nat}(hj:v.ownBlock=some j):base<=j/\j<w.heap.size:=by
 rcases h.2 with ⟨rfl,_⟩ | ⟨g,cap,cur,rfl,hb,hg,_⟩
 ·cases hj
 ·injection hj with hj
  subst hj
  exact ⟨hb,bB hg⟩
theorem E8 {w w':World}{base:Nat}{t:TypeId}{n m:Nat}{v:Value}{xs:List Value}(h:w.ownsRow base t n v m xs)(hs:∀j,v.ownBlock=some j->w'.heap[j]?=w.heap[j]?):w'.ownsRow base t n v m xs:=by
 refine ⟨h.1,?_⟩
 rcases h.2 with a | ⟨g,cap,cur,rfl,hb,hg,r⟩
 ·exact .inl a
 ·exact .inr ⟨g,cap,cur,rfl,hb,by rw[hs g rfl];exact hg,r⟩
theorem LkI.push {w w1 w2 w3 w4:World}{its:List Wd.It}{v v':Value}{K:List Kn}{k:Kn}(h:LkI w w1 its v K)(Ak:Below w1.heap.size w1 w2)(hin:kS w2 k)(hk1:∀j,k.v.ownBlock=some j->w1.heap.size<=j)(hk2:∀j,k.v.ownBlock=some j->j<w2.heap.size)(Al:Below w2.heap.size w2 w3)(hown:w4.ownsRow w.heap.size 127 5 v' (K++[k]).length ((K++[k]).flatMap knV))(hbel:Below w.heap.size w3 w4)(hs:∀j,j<w3.heap.size->v.ownBlock≠some j->w4.heap[j]?=w3.heap[j]?)(hat:v'.ownBlock=v.ownBlock\/v'.ownBlock=some w3.heap.size)(e1:k.hd=isH its K.length)(e2:k.s=Wd.mkS (ah its K.length)):LkI w w4 its v' (K++[k]):=by
 have hz0:=h.bel.size
 have hz1:=Ak.size
 have hz2:=Al.size
 refine ⟨hown,fun x hx=>?_,fun i x hx=>?_,((h.bel.trans (Ak.mono (by omega))).trans (Al.mono (by omega))).trans hbel⟩
 ·have key:∀x:Kn,kS w2 x->(∀j,x.v.ownBlock=some j->j<w2.heap.size/\v.ownBlock≠some j)->kS w4 x/\(∀j,x.v.ownBlock=some j->v'.ownBlock≠some j):=by
   intro x hi hj
   refine ⟨⟨E8 hi.own (fun j e=>?_),hi.fin,hi.gb,hi.short⟩,fun j e e'=>?_⟩
   ·obtain ⟨h1,h2⟩:=hj j e
    rw[hs j (by omega) h2,Al.block j h1]
   ·obtain ⟨h1,h2⟩:=hj j e
    rcases hat with a|a
    ·rw[a] at e';exact h2 e'
    ·rw[a] at e';injection e' with e';omega
  rcases List.mem_append.1 hx with hx|hx
  ·obtain ⟨hi,hj⟩:=h.each x hx
   refine key x (hi.below Ak) (fun j e=>⟨?_,hj j e⟩)
   have:=(fQ hi.own e).2
   omega
  ·have hx':x=k:=by simpa using hx
   subst hx'
   refine key x hin (fun j e=>⟨hk2 j e,fun e'=>?_⟩)
   have h1:=(fQ h.own e').2
   have h2:=hk1 j e
   omega
 ·by_cases hl:i<K.length
  ·rw[List.getElem?_append_left hl] at hx
   exact h.at_ i x hx
  ·rw[List.getElem?_append_right (by omega)] at hx
   have e:i-K.length=0:=by
    by_cases e:i-K.length=0
    ·exact e
    ·rw[List.getElem?_eq_none (by simp;omega)] at hx;cases hx
   rw[e] at hx
   cases hx
   have:i=K.length:=by omega
   rw[this]
   exact ⟨e1,e2⟩
theorem Bo (s:ByteArray)(w:World)(its:List Wd.It)(hs:s.size<=maxLen)(hread:Wd.aF s.data.toList=.ok its) :
  Calls Tryz.prog 73 #[.string s] w fun e w'=>∃ao cc K,e=.returned (.tuple #[.slice ao its.length cc,.int .i64 0])/\lZ w' (.slice ao its.length cc) K/\Aj its K/\Below w.heap.size w w':=by
 have HF:=hide (jP hread)
 have HX:=kZ s w hs
 rw[hread] at HX
 have HXX:=hide HX
 clear HX hread
 have TY:=HF.out.len
 obtain ⟨i0,hj0,hz0,hz1,hz2⟩:=info_parts Tryz.infoKnown
 go_enter Tryz.func73,Tryz.ntmps73
 go_wp2_with (first|(go_at_call 35;refine (HXX.out).mono ?_;rintro e w1 ⟨hb1,g0,c0,rfl,hown1⟩;have HB1:=hide hb1;have HO1:=hide hown1;clear hb1 hown1))
 have HLK:Hid (LkI w (w1.alloc (.cells #[] 127)) its (.slice (some ⟨w1.heap.size,0,none⟩) 0 0) []):=hide ⟨⟨rfl,.inr ⟨w1.heap.size,0,#[],rfl,HB1.out.size,heap_alloc_last _ _,Nat.le_refl _,by decide,rfl,rfl⟩⟩,fun k hk=>(by cases hk),fun i k hk=>(by cases hk),aL HB1.out _⟩
 have HIT:Hid (∀k,k<its.length->w1.cell? ⟨g0,k*2,none⟩=some (.bool (isH its k))/\w1.cell? ⟨g0,k*2+1,none⟩=some (.string (Wd.mkS (ah its k)))/\g0<w1.heap.size):=by
  apply hide
  intro k hk
  obtain ⟨g,cap,hv,hb,hlt,hr⟩:=fI (f:=Wd.itV) (n:=2) (L:=its) (fun _=>rfl) HO1.out (i:=k) (r:=its[k]) (List.getElem?_eq_getElem hk)
  cases hv
  have e1:isH its k=its[k].handler:=by simp[isH,List.getD,hk]
  have e2:ah its k=its[k].body:=by simp[ah,List.getD,hk]
  rw[e1,e2]
  exact ⟨hr.2.2 0 _ rfl,hr.2.2 1 _ rfl,hlt⟩
 have hs1:w.heap.size<=w1.heap.size:=HB1.out.size
 have HW1:Hid (Below w1.heap.size w1 (w1.alloc (.cells #[] 127))):=hide (aD _ _)
 have hsz1:w1.heap.size<(w1.alloc (.cells #[] 127)).heap.size:=by simp
 go_loopw [6,21] (fun a c wr=>∃(k:Nat) (K:List Kn),k<=its.length/\K.length=k/\c=.int .i64 k/\LkI w wr its a K/\w1.heap.size<=wr.heap.size/\Below w1.heap.size w1 wr/\(∀j,a.ownBlock=some j->w1.heap.size<=j)) (fun _ c _=>its.length-(intOf c).toNat)
 case atStart=>exact ⟨0,[],by omega,rfl,rfl,HLK.out,by omega,HW1.out,fun j hj=>by simp[Value.ownBlock] at hj;omega⟩
 case round =>
  clear HLK hsz1 HW1
  obtain ⟨k,K,hk,hKl,rfl,hlk,hsz,hbw,hnw⟩:=hrel
  subst hKl
  have HLK:=hide hlk
  have HBW:=hide hbw
  have HNW:=hide hnw
  clear hlk hbw hnw
  obtain ⟨ao,cc,hv⟩:=bq HLK.out.own
  subst hv
  by_cases hlt:K.length<its.length
  ·obtain ⟨d0,d1,hg0⟩:=HIT.out K.length hlt
   have c0':wr.cell? ⟨g0,K.length*2,none⟩=some (.bool (isH its K.length)):=by rw[HBW.out.cell (by exact hg0)];exact d0
   have c1':wr.cell? ⟨g0,K.length*2+1,none⟩=some (.string (Wd.mkS (ah its K.length))):=by rw[HBW.out.cell (by exact hg0)];exact d1
   have hgb:=hide (HF.out.gb hlt)
   have hbl:(ah its K.length).length<=300:=hgb.out.short
   have AK:=hide (fun W=>CY (isH its K.length) (Wd.mkS (ah its K.length)) W (by rw[Wd.bN];exact hbl) (by rw[Wd.fM];exact hgb.out))
   simp only[Wd.bN,Wd.fM] at AK
   clear d0 d1
   have hk0:(0:Int)<=(K.length:Int):=by omega
   go_wp2_with fail
   have UH:=hide (aD wr (.cells #[.bool (isH its K.length),.string (Wd.mkS (ah its K.length))] 37))
   have hsz':wr.heap.size<(wr.alloc (.cells #[.bool (isH its K.length),.string (Wd.mkS (ah its K.length))] 37)).heap.size:=by simp
   generalize wr.alloc (.cells #[.bool (isH its K.length),.string (Wd.mkS (ah its K.length))] 37)=w1' at *
   go_at_call 77
   refine (AK.out _).mono ?_
   rintro e w2 ⟨kv,RL,g,rfl,hown2,sG,hb2⟩
   obtain ⟨rao,rcc,hkv⟩:=bq hown2
   subst hkv
   have HOR:=hide hown2
   have HFN:=hide sG
   have HB2:=hide (ak UH.out hb2)
   have HKB:=hide (fun j hj=>fQ hown2 (j:=j) hj)
   have UI:=hide (fO HLK.out.own (fun j hj hl=>HB2.out.block j hl))
   have KNV:Hid (knV ⟨isH its K.length,Wd.mkS (ah its K.length),g,.slice rao RL.length rcc,RL⟩=#[.bool (isH its K.length),.bool (isH its K.length),.string (Wd.mkS (ah its K.length)),.slice (some ⟨g,0,none⟩) (ah its K.length).length (ah its K.length).length,.slice rao RL.length rcc].toList):=hide (by unfold knV;simp only[Wd.bN])
   have hs2:w1'.heap.size<=w2.heap.size:=hb2.size
   clear hown2 sG hb2 c0' c1'
   go_wp2_with (first|(refine wpList_store_row rfl 127 _ _ rfl w2.heap.size #[.bool (isH its K.length),.bool (isH its K.length),.string (Wd.mkS (ah its K.length)),.slice (some ⟨g,0,none⟩) (ah its K.length).length (ah its K.length).length,.slice rao RL.length rcc] rfl rfl 127 #[.bool false,.bool false,.string ⟨#[]⟩,.slice none 0 0,.slice none 0 0] ?_ Tryz.iKnown rfl (by simp[Value.oneCell']) ?_;(exact (Row.new w2 #[.bool false,.bool false,.string ⟨#[]⟩,.slice none 0 0,.slice none 0 0] 127).raw);rw[World.setRow_alloc_new];have jA:=hide (Row.new w2 #[.bool (isH its K.length),.bool (isH its K.length),.string (Wd.mkS (ah its K.length)),.slice (some ⟨g,0,none⟩) (ah its K.length).length (ah its K.length).length,.slice rao RL.length rcc] 127);have HB3:=hide (aD w2 (.cells #[.bool (isH its K.length),.bool (isH its K.length),.string (Wd.mkS (ah its K.length)),.slice (some ⟨g,0,none⟩) (ah its K.length).length (ah its K.length).length,.slice rao RL.length rcc] 127));have Af:=hide (UI.out.alloc (.cells #[.bool (isH its K.length),.bool (isH its K.length),.string (Wd.mkS (ah its K.length)),.slice (some ⟨g,0,none⟩) (ah its K.length).length (ah its K.length).length,.slice rao RL.length rcc] 127));generalize w2.alloc (.cells #[.bool (isH its K.length),.bool (isH its K.length),.string (Wd.mkS (ah its K.length)),.slice (some ⟨g,0,none⟩) (ah its K.length).length (ah its K.length).length,.slice rao RL.length rcc] 127)=w3 at *;have hs3:w2.heap.size<w3.heap.size:=jA.out.lt)|(refine wpList_load_row rfl 127 _ rfl _ rfl 127 #[.bool (isH its K.length),.bool (isH its K.length),.string (Wd.mkS (ah its K.length)),.slice (some ⟨g,0,none⟩) (ah its K.length).length (ah its K.length).length,.slice rao RL.length rcc] (0,0) _ ?_ Tryz.underlying127 rfl Tryz.iKnown ?_;(exact jA.out.raw))|(at_builtin;refine gP (f:=knV) wh rfl _ _ 121 rfl w.heap.size 127 i0 _ 80 Tryz.underlying121 hj0 hz0 hz1 hz2 rfl (by decide) _ K ⟨isH its K.length,Wd.mkS (ah its K.length),g,.slice rao RL.length rcc,RL⟩ rfl ⟨_,0,none⟩ rfl ?_ ?_ ?_ ?_ ?_ ?_ ?_;(exact Af.out.alloc _);(rw[KNV.out];exact eZ _ _ _);(rw[KNV.out];intro x hx;simp at hx;rcases hx with rfl|rfl|rfl|rfl<;>rfl);(unfold maxLen;omega);(omega);(simp;omega);intro ao' cc' w5 hown' aT bn hat';have HO5:=hide hown';have gG:=hide aT;have HS5:=hide bn;have HA5:=hide hat';clear hown' aT bn hat'))
   go_round
   case measure=>simp[intOf];omega
   case rel =>
    refine ⟨K.length+1,K++[⟨isH its K.length,Wd.mkS (ah its K.length),g,.slice rao RL.length rcc,RL⟩],by omega,by simp,by go_num,?_,?_,?_,?_⟩
    ·have hin:kS w2 ⟨isH its K.length,Wd.mkS (ah its K.length),g,.slice rao RL.length rcc,RL⟩:=⟨iH HOR.out (Nat.zero_le _),by show iP _ (Wd.mkS _).data.toList _;rw[Wd.fM];exact HFN.out,by show GB (Wd.mkS _).data.toList;rw[Wd.fM];exact hgb.out,by show (Wd.mkS _).size<=300;rw[Wd.bN];exact hbl⟩
     exact HLK.out.push HB2.out hin (fun j hj=>by have:=HKB.out j hj;omega) (fun j hj=>(HKB.out j hj).2) (aL HB3.out _) HO5.out gG.out HS5.out HA5.out rfl rfl
    ·have h1:=HB2.out.size
     have h2:=HB3.out.size
     have h3:=gG.out.size
     simp at h3
     omega
    ·have h1:=HB2.out.size
     have h2:=HB3.out.size
     have UJ:∀j,(Value.slice ao K.length cc).ownBlock=some j->w1.heap.size<=j:=fun j hj=>HNW.out j hj
     refine (HBW.out.trans (HB2.out.mono (by omega))).trans ((HB3.out.mono (by omega)).trans ?_)
     refine ((Below.refl _ _).alloc (by omega) _).trans ⟨gG.out.os,gG.out.tape,gG.out.output,gG.out.size,fun j hj=>?_⟩
     exact HS5.out j (by simp;omega) (fun e=>by have:=UJ j e;omega)
    ·intro j hj
     have h1:=HB2.out.size
     have h2:=HB3.out.size
     rcases HA5.out with e|e
     ·rw[e] at hj;exact HNW.out j hj
     ·rw[e] at hj;injection hj with hj;simp at hj;omega
  ·have e:K.length=its.length:=by omega
   go_wp2
   go_ret2
   exact ⟨ao,cc,K,by rw[<-e];rfl,by rw[<-e];exact ⟨iH HLK.out.own (Nat.zero_le _),fun k hk=>(HLK.out.each k hk).1,by omega⟩,⟨e,HLK.out.at_⟩,HLK.out.bel⟩
end
end Go.Proofs.YtecmfdkhcffpmaaGreat
