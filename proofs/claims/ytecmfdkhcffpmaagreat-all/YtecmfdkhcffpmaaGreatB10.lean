/- Same6, Same7, Same8, Same, Checks. -/
import Derived.Test.YtecmfdkhcffpmaaGreatB09
import Derived.Test.YtecmfdkhcffpmaaGreatRows
import Derived.Test.YtecmfdkhcffpmaaGreatB08
import Derived.ProofKit
import Derived.OpenShut
import Derived.ShutString
namespace Go.Proofs.YtecmfdkhcffpmaaGreat
open Go.RowKit
set_option linter.unusedVariables false
set_option linter.unusedSimpArgs false
set_option linter.unusedSectionVars false
set_option maxHeartbeats 8000000
set_option maxRecDepth 100000
namespace Wd
structure Init (F:Nat->Fn):Prop where
 zO:∀j,(F j).done=false
 there:∀f c,c∈(F f).body->up (bt c)=true->(F (bt c-65).toNat).there=true
 bare:∀f,(F f).there=false->(F f).body=[]
def dK (F:Nat->Fn)(j:Nat):Bool:=decide (j / 8<8)&&kz (F (j / 8)).body (j%8)
theorem rQ (F:Nat->Fn)(x g:Nat)(hx:x<8)(hg:g<8):dK F (x*8+g)=kz (F x).body g:=by
 simp only[dK]
 rw[show (x*8+g) / 8=x from by omega,show (x*8+g)%8=g from by omega]
 simp[hx]
theorem rf (b:List UInt8)(g:Nat):kz b g=true↔∃c∈b,bt c=65+(g:Int):=by simp[kz]
theorem rq (G:Nat->Fn)(l:List UInt8):jO G l=true↔∀c∈l,up (bt c)=true->(G (bt c-65).toNat).done=true:=by
 unfold jO
 rw[Option.isNone_iff_eq_none]
 unfold first
 rw[List.find?_range_eq_none]
 constructor
 ·intro h c hc hu
  obtain ⟨i,hi,e⟩:=List.getElem_of_mem hc
  have:=h i hi
  have ea:at_ l i=bt c:=by simp[at_,bt,hi,e]
  simp[qy,ea,hu] at this
  exact this
 ·intro h i hi
  have ea:at_ l i=bt l[i]:=by simp[at_,bt,hi]
  have:=h l[i] (List.getElem_mem hi)
  simp only[qy,ea]
  cases hu:up (bt l[i]) with
  | false=>rfl
  | true=>simp[this hu]
def nE (G F:Nat->Fn):Prop:=∀j,(G j).there=(F j).there/\(G j).body=(F j).body
theorem xY (G:Nat->Fn)(f:Fn):(eY G f).there=f.there/\(eY G f).body=f.body/\(eY G f).done=true:=by
 unfold eY;split<;>exact ⟨rfl,rfl,rfl⟩
theorem uj {G F:Nat->Fn}(h:nE G F)(n:Nat):nE (dh G n) F:=by
 intro j
 unfold dh
 split
 ·by_cases e:j=n
  ·subst e;simp only[if_true]
   obtain ⟨a,b,_⟩:=xY G (G j)
   rw[a,b];exact h j
  ·simp only[e,if_false];exact h j
 ·exact h j
theorem BP {G F:Nat->Fn}(h:nE G F)(n:Nat):nE (fF G n) F:=by
 induction n with
 | zero=>exact h
 | succ n ih=>exact uj ih n
theorem xq (F:Nat->Fn)(r:Nat):nE (bJ F r) F:=by
 induction r with
 | zero=>exact fun j=>⟨rfl,rfl⟩
 | succ r ih=>exact BP ih 8
theorem xk {G:Nat->Fn}{j:Nat}(h:(G j).done=true)(n:Nat):(dh G n j).done=true:=by
 unfold dh
 split
 ·by_cases e:j=n
  ·subst e;simp only[if_true];exact (xY G (G j)).2.2
  ·simp only[e,if_false];exact h
 ·exact h
theorem BQ {G:Nat->Fn}{j:Nat}(n m:Nat)(h:(fF G n j).done=true):(fF G (n+m) j).done=true:=by
 induction m with
 | zero=>exact h
 | succ m ih=>exact xk ih (n+m)
theorem Ji {G H:Nat->Fn}(h:∀j,(G j).done=true->(H j).done=true)(l:List UInt8)(hd:jO G l=true):jO H l=true:=by
 rw[rq] at hd ⊢
 exact fun c hc hu=>h _ (hd c hc hu)
theorem LQ {G:Nat->Fn}{u:Nat}(hu:u<8)(ht:(G u).there=true)(hd:jO G (G u).body=true):(fF G 8 u).done=true:=by
 have hs:=BP (G:=G) (F:=G) (fun j=>⟨rfl,rfl⟩) u
 have h1:(fF G (u+1) u).done=true:=by
  simp only[fF]
  generalize hH:fF G u=H at hs
  have hall:jO H (H u).body=true:=by
   rw[(hs u).2]
   refine Ji (fun j hj=>?_) _ hd
   rw[<-hH]
   have:=BQ (G:=G) (j:=j) 0 u hj
   simpa using this
  by_cases hdn:(H u).done=true
  ·exact xk hdn u
  ·unfold dh
   rw[if_pos ⟨by rw[(hs u).1];exact ht,by simpa using hdn,hall⟩]
   simp only[if_true]
   exact (xY H (H u)).2.2
 have:=BQ (u+1) (8-(u+1)) h1
 rwa [show u+1+(8-(u+1))=8 from by omega] at this
def rR (F G:Nat->Fn):Prop:=nE G F/\∀i,i<8->reach (dK F) i i=true->(G i).done=false
theorem Il {F G:Nat->Fn}(h:rR F G)(n:Nat)(hn:n<8):rR F (dh G n):=by
 refine ⟨uj h.1 n,?_⟩
 intro i hi hr
 unfold dh
 split
 ·next hc =>
  by_cases e:i=n
  ·exfalso
   subst e
   obtain ⟨g,hg,hb,hgi⟩:=Co hi hi hr
   have hgg:reach (dK F) g g=true:=by
    rcases hgi with e|e
    ·subst e;exact hr
    ·exact uI hg hi hg e (rF hi hg hb)
   have hnd:=h.2 g hg hgg
   rw[rQ F i g hi hg,rf] at hb
   obtain ⟨c,hcm,hce⟩:=hb
   have:=(rq G (G i).body).1 hc.2.2 c (by rw[(h.1 i).2];exact hcm) (by rw[dA];omega)
   rw[hce,show (65+(g:Int)-65).toNat=g from by omega] at this
   rw[this] at hnd
   cases hnd
  ·simp only[e,if_false];exact h.2 i hi hr
 ·exact h.2 i hi hr
theorem Jj {F G:Nat->Fn}(h:rR F G)(n:Nat)(hn:n<=8):rR F (fF G n):=by
 induction n with
 | zero=>exact h
 | succ n ih=>exact Il (ih (by omega)) n (by omega)
theorem IL {F:Nat->Fn}(hI:Init F)(r:Nat):rR F (bJ F r):=by
 induction r with
 | zero=>exact ⟨fun j=>⟨rfl,rfl⟩,fun i _ _=>hI.zO i⟩
 | succ r ih=>exact Jj ih 8 (by omega)
theorem um {F:Nat->Fn}(hI:Init F)(eG:∀i,i<8->reach (dK F) i i=false)(r:Nat)(u:Nat)(hu:u<8)(ht:(F u).there=true)(hc:count (dK F) u<r):(bJ F r u).done=true:=by
 induction r generalizing u with
 | zero=>omega
 | succ r ih =>
  have hs:=xq F r
  simp only[bJ]
  refine LQ hu (by rw[(hs u).1];exact ht) ?_
  rw[rq]
  intro c hcm hup
  rw[(hs u).2] at hcm
  have Gv:=(dA _).1 hup
  have hg:(bt c-65).toNat<8:=by omega
  have hb:dK F (u*8+(bt c-65).toNat)=true:=by
   rw[rQ F u _ hu hg,rf];exact ⟨c,hcm,by omega⟩
  have:=yU eG hu hg hb
  exact ih _ hg (hI.there u c hcm hup) (by omega)
theorem PY (G:Nat->Fn):left G=true↔∃j,j<8/\(G j).there=true/\(G j).done=false:=by
 unfold left first
 rw[List.find?_isSome]
 simp[wH]
theorem yA (p:Nat->Bool)(n:Nat):(first p n).isSome=true↔∃j,j<n/\p j=true:=by
 unfold first
 rw[List.find?_isSome]
 simp
theorem NN {F:Nat->Fn}(hI:Init F):left (bJ F 8)=(first (fun i=>reach (dK F) i i) 8).isSome:=by
 rw[Bool.eq_iff_iff,PY,yA]
 constructor
 ·rintro ⟨j,hj,ht,hd⟩
  apply Classical.byContradiction
  intro hno
  have eG:∀i,i<8->reach (dK F) i i=false:=by
   intro i hi
   cases hr:reach (dK F) i i with
   | false=>rfl
   | true=>exact absurd ⟨i,hi,hr⟩ hno
  rw[(xq F 8 j).1] at ht
  rw[um hI eG 8 j hj ht (qi eG hj)] at hd
  cases hd
 ·rintro ⟨i,hi,hr⟩
  refine ⟨i,hi,?_,(IL hI 8).2 i hi hr⟩
  rw[(xq F 8 i).1]
  obtain ⟨g,hg,hb,_⟩:=Co hi hi hr
  rw[rQ F i g hi hg,rf] at hb
  obtain ⟨c,hc,_⟩:=hb
  cases ht:(F i).there with
  | true=>rfl
  | false=>rw[hI.bare i ht] at hc;simp at hc
end Wd
namespace Wd
theorem Bf (F:Nat->Fn)(ps:List Part)(seen:Nat->Bool)(h:jN F ps seen=none) :
  (∀p∈ps,unknown F p.body=none)/\(∀p∈ps,up p.letter=true->seen (p.letter-65).toNat=false)/\ps.Pairwise (fun a b=>up a.letter=true->b.letter≠a.letter):=by
 induction ps generalizing seen with
 | nil=>simp
 | cons p r ih =>
  simp only[jN] at h
  split at h
  ·cases h
  ·next hc =>
   cases hu:unknown F p.body with
   | some u=>rw[hu] at h;cases h
   | none =>
    rw[hu] at h
    simp only at h
    obtain ⟨i1,i2,i3⟩:=ih _ h
    have hp:up p.letter=true->seen (p.letter-65).toNat=false:=by
     intro hup
     cases hs:seen (p.letter-65).toNat with
     | false=>rfl
     | true=>exact absurd ⟨hup,hs⟩ hc
    refine ⟨?_,?_,?_⟩
    ·intro q hq
     simp only[List.mem_cons] at hq
     rcases hq with hq|hq
     ·subst hq;exact hu
     ·exact i1 q hq
    ·intro q hq hup
     simp only[List.mem_cons] at hq
     rcases hq with hq|hq
     ·subst hq;exact hp hup
     ·have:=i2 q hq hup
      by_cases hpu:up p.letter=true
      ·rw[if_pos hpu] at this
       by_cases e:(q.letter-65).toNat=(p.letter-65).toNat
       ·rw[if_pos e] at this;cases this
       ·rw[if_neg e] at this;exact this
      ·rw[if_neg hpu] at this;exact this
    ·refine List.Pairwise.cons ?_ i3
     intro q hq hpu e
     have:=i2 q hq (by rw[e];exact hpu)
     rw[if_pos hpu,if_pos (by rw[e])] at this
     cases this
theorem yB (ps:List Part)(F:Nat->Fn)(j:Nat)(h:∀q∈ps,¬(up q.letter=true/\(q.letter-65).toNat=j)):(ps.foldl fu F) j=F j:=by
 induction ps generalizing F with
 | nil=>rfl
 | cons p r ih =>
  rw[List.foldl_cons,ih _ (fun q hq=>h q (by simp[hq]))]
  unfold fu
  split
  ·next hu =>
   have:=h p (by simp)
   have hne:¬j=(p.letter-65).toNat:=fun e=>this ⟨hu,e.symm⟩
   simp only[if_neg hne]
  ·rfl
theorem fold_at (ps:List Part)(F:Nat->Fn)(h:ps.Pairwise (fun a b=>up a.letter=true->b.letter≠a.letter))(p:Part)(hp:p∈ps)(hu:up p.letter=true):(ps.foldl fu F) (p.letter-65).toNat=⟨true,p.body,false,false,[]⟩:=by
 induction ps generalizing F with
 | nil=>simp at hp
 | cons q r ih =>
  rw[List.foldl_cons]
  obtain ⟨h1,h2⟩:=List.pairwise_cons.1 h
  simp only[List.mem_cons] at hp
  rcases hp with hp|hp
  ·subst hp
   rw[yB]
   ·unfold fu;rw[if_pos hu];simp
   ·rintro x hx ⟨hxu,e⟩
    apply h1 x hx hu
    have a1:=(dA _).1 hu
    have a2:=(dA _).1 hxu
    omega
  ·exact ih _ h2 hp
theorem oz (rs:List (UInt8×List UInt8))(h:∀x∈rs,dJ x)(hn:fD (flat rs)=none)(f:Nat)(hf:f<8) :
  (∃p∈lay 0 rs,p.letter=65+(f:Int)/\bR rs f=⟨true,p.body,false,false,[]⟩/\head (flat rs) (65+(f:Int))=some p.pos/\body (flat rs) p.pos=p.body)\/(bR rs f=fn0/\head (flat rs) (65+(f:Int))=none):=by
 have hns:=uP rs h
 rw[hn,ol rs h] at hns
 obtain ⟨n1,n2,n3⟩:=Bf _ _ _ hns
 have hl:=qb rs [] h
 simp only[List.nil_append,List.length_nil] at hl
 rw[yT rs h]
 cases hq:(lay 0 rs).find? (fun p=>p.letter==65+(f:Int)) with
 | some p =>
  left
  have hp:=List.mem_of_find?_eq_some hq
  have hc:=List.find?_some hq
  simp at hc
  refine ⟨p,hp,hc,?_,rfl,(hl p hp).2.1⟩
  have:=fold_at (lay 0 rs) (fun _=>fn0) n3 p hp (by rw[dA];omega)
  rw[show (p.letter-65).toNat=f from by omega] at this
  exact this
 | none =>
  right
  refine ⟨?_,rfl⟩
  rw[List.find?_eq_none] at hq
  apply yB
  rintro q hqm ⟨hu,e⟩
  have a:=(dA _).1 hu
  apply hq q hqm
  simp;omega
theorem vL (rs:List (UInt8×List UInt8))(f:Nat)(hf:¬f<8):bR rs f=fn0:=by
 apply yB
 rintro q hqm ⟨hu,e⟩
 have a:=(dA _).1 hu
 omega
theorem Jk {F:Nat->Fn}{l:List UInt8}(h:unknown F l=none):∀c∈l,up (bt c)=true->(F (bt c-65).toNat).there=true:=by
 intro c hc hu
 unfold unknown first at h
 rw[List.find?_range_eq_none] at h
 obtain ⟨i,hi,e⟩:=List.getElem_of_mem hc
 have:=h i hi
 have ea:at_ l i=bt c:=by simp[at_,bt,hi,e]
 simp[mo,ea,hu] at this
 exact this
theorem vM (rs:List (UInt8×List UInt8))(h:∀x∈rs,dJ x)(hn:fD (flat rs)=none):Init (bR rs)/\∀p∈lay 0 rs,∀c∈p.body,up (bt c)=true->(bR rs (bt c-65).toNat).there=true:=by
 have hns:=uP rs h
 rw[hn,ol rs h] at hns
 obtain ⟨n1,n2,n3⟩:=Bf _ _ _ hns
 have hth:∀p∈lay 0 rs,∀c∈p.body,up (bt c)=true->(bR rs (bt c-65).toNat).there=true:=fun p hp=>Jk (n1 p hp)
 refine ⟨⟨?_,?_,?_⟩,hth⟩
 ·intro j
  by_cases hj:j<8
  ·rcases oz rs h hn j hj with ⟨p,hp,_,e,_⟩ | ⟨e,_⟩
   ·rw[e]
   ·rw[e];rfl
  ·rw[vL rs j hj];rfl
 ·intro f c hc hu
  by_cases hj:f<8
  ·rcases oz rs h hn f hj with ⟨p,hp,_,e,_⟩ | ⟨e,_⟩
   ·rw[e] at hc;exact hth p hp c hc hu
   ·rw[e] at hc;simp[fn0] at hc
  ·rw[vL rs f hj] at hc;simp[fn0] at hc
 ·intro f hb
  by_cases hj:f<8
  ·rcases oz rs h hn f hj with ⟨p,hp,_,e,_⟩ | ⟨e,_⟩
   ·rw[e] at hb;cases hb
   ·rw[e];rfl
  ·rw[vL rs f hj];rfl
theorem xZ (rs:List (UInt8×List UInt8))(h:∀x∈rs,dJ x)(hn:fD (flat rs)=none):gT (flat rs) 8=dK (bR rs):=by
 funext j
 simp only[gT,dK]
 by_cases hj:j / 8<8
 ·congr 1
  unfold calls
  rcases oz rs h hn (j / 8) hj with ⟨p,hp,_,e,hh,hb⟩ | ⟨e,hh⟩
  ·rw[hh];simp only;rw[hb,e]
  ·rw[hh,e];rfl
 ·simp[hj]
theorem Di (rs:List (UInt8×List UInt8))(h:∀x∈rs,dJ x)(hn:fD (flat rs)=none):left (bJ (split (flat rs)).F 8)=round (flat rs):=by
 rw[ol rs h]
 show left (bJ (bR rs) 8)=_
 rw[NN (vM rs h hn).1,round,xZ rs h hn]
 rfl
end Wd
namespace Wd
theorem Im (of1 of2:Nat->Int)(b:List UInt8)(n:Int)(h:∀c∈b,up (bt c)=true->of1 (bt c-65).toNat=of2 (bt c-65).toNat):eX of1 b n=eX of2 b n:=by
 induction b generalizing n with
 | nil=>rfl
 | cons c r ih =>
  have hp:plus of1 n (bt c)=plus of2 n (bt c):=by
   unfold plus
   split
   ·next hu=>rw[h c (by simp) hu]
   ·rfl
  simp only[eX,hp]
  rw[ih _ (fun x hx=>h x (by simp[hx]))]
theorem xB (rs:List (UInt8×List UInt8))(h:∀x∈rs,dJ x)(hn:fD (flat rs)=none)(of:Nat->Int)(f:Nat)(hf:f<8):lu (flat rs) of f=if (bR rs f).there=true then size (bR rs f).body of else of f:=by
 unfold lu
 rcases oz rs h hn f hf with ⟨p,hp,_,e,hh,hb⟩ | ⟨e,hh⟩
 ·rw[hh,e];simp[hb]
 ·rw[hh,e];simp[fn0]
theorem Jl (rs:List (UInt8×List UInt8))(h:∀x∈rs,dJ x)(hn:fD (flat rs)=none)(eG:∀i,i<8->reach (dK (bR rs)) i i=false)(k f:Nat)(hf:f<8)(ht:(bR rs f).there=true)(hc:count (dK (bR rs)) f<k):aU (flat rs) (k+1) f=aU (flat rs) k f:=by
 induction k generalizing f with
 | zero=>omega
 | succ k ih =>
  show lu (flat rs) (aU (flat rs) (k+1)) f=lu (flat rs) (aU (flat rs) k) f
  rw[xB rs h hn _ f hf,xB rs h hn _ f hf,if_pos ht,if_pos ht]
  unfold size
  apply Im
  intro c hcm hu
  have hu':=(dA _).1 hu
  have hg:(bt c-65).toNat<8:=by omega
  have hb:dK (bR rs) (f*8+(bt c-65).toNat)=true:=by
   rw[rQ _ f _ hf hg,rf];exact ⟨c,hcm,by omega⟩
  have:=yU eG hf hg hb
  exact ih _ hg ((vM rs h hn).1.there f c hcm hu) (by omega)
theorem D7 (rs:List (UInt8×List UInt8))(h:∀x∈rs,dJ x)(hn:fD (flat rs)=none)(eG:∀i,i<8->reach (dK (bR rs)) i i=false)(f:Nat)(hf:f<8)(ht:(bR rs f).there=true):aU (flat rs) 8 f=size (bR rs f).body (aU (flat rs) 8):=by
 have:=Jl rs h hn eG 8 f hf ht (qi eG hf)
 rw[<-this]
 show lu (flat rs) (aU (flat rs) 8) f=_
 rw[xB rs h hn _ f hf,if_pos ht]
def Fits (F:Nat->Fn)(V:Nat->Int)(G:Nat->Fn):Prop:=nE G F/\∀j,j<8->(G j).done=true->(((G j).fits=true↔V j<=300)/\((G j).fits=true->((G j).text.length:Int)=V j))
theorem yV {F G:Nat->Fn}{V:Nat->Int}(hF:Fits F V G)(hV:∀j,0<=V j)(b acc:List UInt8)(hb:∀c∈b,up (bt c)=true->(G (bt c-65).toNat).done=true)(ha:acc.length<=300) :
  (eX V b (acc.length:Int)<=300->∃x,unf G b acc=some x/\(x.length:Int)=eX V b (acc.length:Int))/\(300<eX V b (acc.length:Int)->unf G b acc=none):=by
 induction b generalizing acc with
 | nil =>
  simp only[eX,unf]
  exact ⟨fun _=>⟨acc,rfl,rfl⟩,fun hh=>by omega⟩
 | cons c r ih =>
  have hr:∀x∈r,up (bt x)=true->(G (bt x-65).toNat).done=true:=fun x hx=>hb x (by simp[hx])
  cases hu:up (bt c) with
  | true =>
   have hu':=(dA _).1 hu
   have hg:(bt c-65).toNat<8:=by omega
   obtain ⟨f1,f2⟩:=hF.2 _ hg (hb c (by simp) hu)
   have hp:plus V (acc.length:Int) (bt c)=(acc.length:Int)+V (bt c-65).toNat:=by unfold plus;rw[if_pos hu]
   have hv0:=hV (bt c-65).toNat
   simp only[eX,hp,unf,if_pos hu]
   by_cases hv:V (bt c-65).toNat<=300
   ·have hft:=f1.2 hv
    have hlen:=f2 hft
    rw[if_pos hft]
    by_cases hbig:300<(acc++(G (bt c-65).toNat).text).length
    ·rw[if_pos hbig,if_pos (by simp at hbig;omega)]
     exact ⟨fun hh=>by omega,fun _=>rfl⟩
    ·rw[if_neg hbig,if_neg (by simp at hbig;omega)]
     have e:(acc.length:Int)+V (bt c-65).toNat=((acc++(G (bt c-65).toNat).text).length:Int):=by simp;omega
     rw[e]
     exact ih _ hr (by omega)
   ·have hft:¬(G (bt c-65).toNat).fits=true:=fun hh=>hv (f1.1 hh)
    rw[if_neg hft,if_pos (by omega)]
    exact ⟨fun hh=>by omega,fun _=>rfl⟩
  | false =>
   have hne:¬up (bt c)=true:=by rw[hu];simp
   have hp:plus V (acc.length:Int) (bt c)=(acc.length:Int)+1:=by unfold plus;rw[if_neg hne]
   simp only[eX,hp,unf,if_neg hne]
   by_cases hbig:300<(acc++[c]).length
   ·rw[if_pos hbig,if_pos (by simp at hbig;omega)]
    exact ⟨fun hh=>by omega,fun _=>rfl⟩
   ·rw[if_neg hbig,if_neg (by simp at hbig;omega)]
    have e:(acc.length:Int)+1=((acc++[c]).length:Int):=by simp
    rw[e]
    exact ih _ hr (by omega)
theorem Io {F G:Nat->Fn}{V:Nat->Int}(hV:∀j,0<=V j)(hfix:∀j,j<8->(F j).there=true->V j=size (F j).body V)(hF:Fits F V G)(n:Nat)(hn:n<8):Fits F V (dh G n):=by
 refine ⟨uj hF.1 n,?_⟩
 intro j hj
 unfold dh
 split
 ·next hc =>
  by_cases e:j=n
  ·subst e
   simp only[if_true]
   intro _
   have hall:=(rq G (G j).body).1 hc.2.2
   obtain ⟨u1,u2⟩:=yV hF hV (G j).body [] hall (by simp)
   have hs:=hfix j hj (by rw[<-(hF.1 j).1];exact hc.1)
   rw[<-(hF.1 j).2] at hs
   unfold size at hs
   simp only[List.length_nil,Int.natCast_zero] at u1 u2
   rw[<-hs] at u1 u2
   unfold eY unfold
   by_cases hv:V j<=300
   ·obtain ⟨x,hx,hl⟩:=u1 hv
    rw[hx]
    exact ⟨⟨fun _=>hv,fun _=>rfl⟩,fun _=>hl⟩
   ·rw[u2 (by omega)]
    exact ⟨⟨(fun hh=>by cases hh),(fun hh=>absurd hh hv)⟩,(fun hh=>by cases hh)⟩
  ·simp only[e,if_false];exact hF.2 j hj
 ·exact hF.2 j hj
theorem Jm {F G:Nat->Fn}{V:Nat->Int}(hV:∀j,0<=V j)(hfix:∀j,j<8->(F j).there=true->V j=size (F j).body V)(hF:Fits F V G)(n:Nat)(hn:n<=8):Fits F V (fF G n):=by
 induction n with
 | zero=>exact hF
 | succ n ih=>exact Io hV hfix (ih (by omega)) n (by omega)
theorem Bu {F:Nat->Fn}{V:Nat->Int}(hI:Init F)(hV:∀j,0<=V j)(hfix:∀j,j<8->(F j).there=true->V j=size (F j).body V)(r:Nat):Fits F V (bJ F r):=by
 induction r with
 | zero=>exact ⟨fun j=>⟨rfl,rfl⟩,fun j _ hd=>by rw[show bJ F 0=F from rfl,hI.zO j] at hd;cases hd⟩
 | succ r ih=>exact Jm hV hfix ih 8 (by omega)
end Wd
namespace Wd
theorem IQ (l:List UInt8)(k n:Nat)(h:∀i,k<=i->i<k+n->kE l i=false):gQ l (k+n)=gQ l k:=by
 induction n with
 | zero=>rfl
 | succ n ih =>
  rw[show k+(n+1)=(k+n)+1 from rfl,uF (h (k+n) (by omega) (by omega)),ih (fun i h1 h2=>h i h1 (by omega))]
def dM (ps:List Part):List Part:=ps.filter (fun p=>!up p.letter)
theorem Kg (rs0:List (UInt8×List UInt8))(h0:∀x∈rs0,dJ x)(rs:List (UInt8×List UInt8))(pre:List UInt8)(hl:flat rs0=pre++flat rs)(qs:List Part)(hPS:lay 0 rs0=qs++lay pre.length rs)(h:∀x∈rs,dJ x) :
  starts (flat rs0)=gQ (flat rs0) pre.length++(dM (lay pre.length rs)).map (·.pos):=by
 induction rs generalizing pre qs with
 | nil =>
  have e:(flat rs0).length=pre.length:=by rw[hl];simp[flat]
  simp[starts,e,lay,dM]
 | cons x r ih =>
  obtain ⟨hx1,hx2⟩:=h x (by simp)
  have kR:lay pre.length (x::r)=⟨bt x.1,pre.length,x.2⟩::lay (pre.length+x.2.length+3) r:=rfl
  have hsort:=xV rs0 0
  rw[hPS] at hsort
  have sD:∀q∈qs,q.pos<pre.length:=by
   intro q hq
   rw[List.pairwise_append] at hsort
   exact hsort.2.2 q hq ⟨bt x.1,pre.length,x.2⟩ (by rw[kR];simp)
  have rY:∀i,heads (flat rs0) i=true↔∃p∈lay 0 rs0,p.pos=i:=fun i=>xW rs0 [] h0 i (Nat.zero_le _)
  have hin:(⟨bt x.1,pre.length,x.2⟩:Part)∈lay 0 rs0:=by rw[hPS,kR];simp
  have hat:=(qb rs0 [] h0 _ hin).1
  simp only[List.nil_append] at hat
  have Uf:∀i,pre.length+1<=i->i<pre.length+1+(x.2.length+2)->kE (flat rs0) i=false:=by
   intro i h1 h2
   have:heads (flat rs0) i=false:=by
    rw[<-Bool.not_eq_true,rY]
    rintro ⟨p,hp,e2⟩
    rw[hPS,List.mem_append] at hp
    rcases hp with hp|hp
    ·have:=sD p hp;omega
    ·rw[kR] at hp
     simp only[List.mem_cons] at hp
     rcases hp with hp|hp
     ·subst hp;simp only at e2;omega
     ·have:=rX _ _ p hp;omega
   simp[kE,this]
  have hl2:flat rs0=(pre++(x.1::123::(x.2++[125])))++flat r:=by rw[hl,rP]
  have:=ih (pre++(x.1::123::(x.2++[125]))) hl2 (qs++[⟨bt x.1,pre.length,x.2⟩]) (by rw[hPS,kR,kC];simp) (fun y hy=>h y (by simp[hy]))
  rw[kC,show pre.length+x.2.length+3=pre.length+1+(x.2.length+2) from by omega,IQ _ _ _ Uf] at this
  rw[this,kR]
  have hst:kE (flat rs0) pre.length=!up (bt x.1):=by
   have hh:heads (flat rs0) pre.length=true:=(rY _).2 ⟨_,hin,rfl⟩
   simp only[kE,hh,hat,Bool.true_and]
   rcases hx1 with e|e|e
   ·rw[e];decide
   ·rw[e];decide
   ·rw[e]
    have:=(dA _).1 e
    simp;omega
  cases hu:up (bt x.1) with
  | true =>
   rw[uF (by rw[hst,hu];rfl)]
   simp[dM,hu,show pre.length+1+(x.2.length+2)=pre.length+x.2.length+3 from by omega]
  | false =>
   rw[xA (by rw[hst,hu];rfl)]
   simp[dM,hu,show pre.length+1+(x.2.length+2)=pre.length+x.2.length+3 from by omega]
theorem D8 (rs:List (UInt8×List UInt8))(h:∀x∈rs,dJ x):starts (flat rs)=(dM (lay 0 rs)).map (·.pos):=by
 have:=Kg rs h rs [] rfl [] rfl h
 simpa [gQ] using this
theorem Bg (G:Nat->Fn)(ps:List Part)(acc:List It):dR G ps acc=dR G (dM ps) acc:=by
 induction ps generalizing acc with
 | nil=>rfl
 | cons p r ih =>
  cases hu:up p.letter with
  | true =>
   have e:dM (p::r)=dM r:=by simp[dM,hu]
   rw[e,dR,if_pos hu,ih]
  | false =>
   have e:dM (p::r)=p::dM r:=by simp[dM,hu]
   have hne:¬up p.letter=true:=by rw[hu];simp
   rw[e,dR,dR,if_neg hne,if_neg hne]
   split
   ·exact ih _
   ·rfl
theorem IU {F G:Nat->Fn}{V:Nat->Int}(hF:Fits F V G)(hV:∀j,0<=V j)(all dn ts:List Part)(hall:all=dn++ts)(hup:∀p∈ts,up p.letter=false)(hdone:∀p∈ts,∀c∈p.body,up (bt c)=true->(G (bt c-65).toNat).done=true)(acc:List It)(hacc:acc.length=dn.length)
  (P:Nat->Bool) (hP:∀k (hk:k<all.length),P k=decide (300<size (all[k]).body V)) (hno:∀k,k<dn.length->P k=false) :
  (∃its,dR G ts acc=.ok its/\first P all.length=none)\/(∃n,dR G ts acc=.error n/\first P all.length=some n):=by
 induction ts generalizing dn acc with
 | nil =>
  left
  refine ⟨acc,rfl,lJ ?_⟩
  intro j hj
  apply hno
  rw[hall] at hj
  simpa using hj
 | cons p r ih =>
  have hu:=hup p (by simp)
  have hne:¬up p.letter=true:=by rw[hu];simp
  have hlt:dn.length<all.length:=by rw[hall];simp
  have hget:all[dn.length]=p:=by simp[hall]
  have hPd:=hP dn.length hlt
  rw[hget] at hPd
  obtain ⟨u1,u2⟩:=yV hF hV p.body [] (hdone p (by simp)) (by simp)
  simp only[List.length_nil,Int.natCast_zero] at u1 u2
  simp only[dR,if_neg hne]
  by_cases hv:size p.body V<=300
  ·obtain ⟨x,hx,_⟩:=u1 hv
   unfold unfold
   rw[hx]
   simp only
   have:=ih (dn++[p]) (by rw[hall];simp) (fun q hq=>hup q (by simp[hq])) (fun q hq=>hdone q (by simp[hq])) (acc++[⟨p.letter==104,x⟩]) (by simp[hacc]) ?_
   ·exact this
   ·intro k hk
    simp at hk
    by_cases e:k=dn.length
    ·rw[e,hPd];simp;omega
    ·exact hno k (by omega)
  ·right
   unfold unfold
   rw[u2 (by unfold size at hv;omega)]
   refine ⟨acc.length,rfl,?_⟩
   rw[hacc]
   exact jL hlt (by rw[hPd];simp;omega) hno
theorem PZ (rs:List (UInt8×List UInt8))(h:∀x∈rs,dJ x)(hn:fD (flat rs)=none)(hr:round (flat rs)=false) :
  (∃its,items (bJ (split (flat rs)).F 8) (split (flat rs)).ps=.ok its/\kQ (flat rs)=none)\/(∃n,items (bJ (split (flat rs)).F 8) (split (flat rs)).ps=.error n/\kQ (flat rs)=some n):=by
 obtain ⟨hI,hth⟩:=vM rs h hn
 have eG:∀i,i<8->reach (dK (bR rs)) i i=false:=by
  intro i hi
  cases hq:reach (dK (bR rs)) i i with
  | false=>rfl
  | true =>
   exfalso
   have:round (flat rs)=true:=by
    rw[round,xZ rs h hn,yA];exact ⟨i,hi,hq⟩
   rw[this] at hr;cases hr
 have hV:∀j,0<=aU (flat rs) 8 j:=fun j=>(rD _ 8 j).1
 have hF:=Bu hI hV (D7 rs h hn eG) 8
 rw[ol rs h]
 show (∃its,items (bJ (bR rs) 8) (lay 0 rs)=.ok its/\_)\/(∃n,items (bJ (bR rs) 8) (lay 0 rs)=.error n/\_)
 unfold items
 rw[Bg]
 have hst:=D8 rs h
 have lU:=qb rs [] h
 simp only[List.nil_append,List.length_nil] at lU
 have hlen:(starts (flat rs)).length=(dM (lay 0 rs)).length:=by rw[hst];simp
 unfold kQ
 rw[hlen]
 refine IU hF hV (dM (lay 0 rs)) [] (dM (lay 0 rs)) rfl ?_ ?_ [] rfl _ ?_ (by simp)
 ·intro p hp;simp[dM] at hp;exact hp.2
 ·intro p hp c hc hu
  simp[dM] at hp
  have hu':=(dA _).1 hu
  exact um hI eG 8 _ (by omega) (hth p hp.1 c hc hu) (qi eG (by omega))
 ·intro k hk
  have e:(starts (flat rs)).getD k 0=((dM (lay 0 rs))[k]).pos:=by rw[hst];simp[hk]
  have hm:(dM (lay 0 rs))[k]∈lay 0 rs:=by
   have:=List.getElem_mem hk
   simp only[dM,List.mem_filter] at this
   exact this.1
  have e2:=(lU _ hm).2.1
  rw[e,e2]
theorem pY (l:List UInt8):jQ l=bX l:=by
 unfold jQ
 by_cases hbig:240<l.length
 ·rw[uM hbig,Ci hbig]
 ·cases hf:fault l with
  | some i=>rw[uN hbig hf,Cj hbig (by rw[<-Dh];exact hf)]
  | none =>
   have hp:place l=none:=by rw[<-Dh];exact hf
   obtain ⟨rs,rfl,h⟩:=EB hf
   have hns:=uP rs h
   cases hn:fD (flat rs) with
   | some i =>
    rw[hn] at hns
    rw[uO hbig hf hns,Ck hbig hp hn]
   | none =>
    rw[hn] at hns
    have hrs:=Di rs h hn
    cases hr:round (flat rs) with
    | true =>
     rw[hr] at hrs
     rw[uH hbig hf hns hrs,BL hbig hp hn hr]
    | false =>
     rw[hr] at hrs
     rcases PZ rs h hn hr with ⟨its,h1,h2⟩ | ⟨n,h1,h2⟩
     ·rw[vo hbig hf hns hrs h1,DW hbig hp hn hr h2]
     ·rw[uX hbig hf hns hrs h1,Da hbig hp hn hr h2]
end Wd
section
open Go.ChangeShapes Go.WideShapes Go.ChangeAt Go.RowKit
open Go.ChangeMaps (open_string shut_string)
theorem Tryz.own:ownKnob Tryz.prog.godebug=none:=by kernel_rfl
theorem Kh (s:ByteArray)(hs:s.size<=maxLen)(w:World) :
  Calls Tryz.prog 5 #[.string s] w fun e w'=>e=.returned (.bool true)/\Below w.heap.size w w':=by
 have HE:=hide (Wd.pY s.data.toList)
 go_enter Tryz.func5,Tryz.ntmps5
 go_wp2_with fail
 refine (NJ s _ hs).mono ?_
 rw[HE.out]
 rintro e w1 ⟨rfl,hb1⟩
 have HB1:=hide hb1
 clear hb1
 go_wp2_with fail
 refine (uL s _ hs).mono ?_
 generalize (Wd.bX s.data.toList).1=a
 generalize (Wd.bX s.data.toList).2=b
 rintro e w2 ⟨rfl,hb2⟩
 have HB2:=hide (HB1.out.trans (hb2.mono HB1.out.size))
 clear hb2
 have ha:(a==a)=true:=by simp
 have hb:(b==b)=true:=by simp
 go_wp2_with fail
 go_ret
 exact ⟨rfl,HB2.out⟩
end
end Go.Proofs.YtecmfdkhcffpmaaGreat
