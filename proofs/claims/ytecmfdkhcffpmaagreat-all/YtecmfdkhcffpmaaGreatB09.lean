/- Same2, Same3, Same4, Same5. -/
import Derived.Test.YtecmfdkhcffpmaaGreatB08
namespace Go.Proofs.YtecmfdkhcffpmaaGreat
open Go.RowKit
set_option linter.unusedVariables false
set_option linter.unusedSimpArgs false
set_option linter.unusedSectionVars false
set_option maxHeartbeats 8000000
set_option maxRecDepth 100000
namespace Wd
def flat:List (UInt8×List UInt8)->List UInt8
 | []=>[]
 | x::r=>x.1::123::(x.2++125::flat r)
def clean (b:List UInt8):Prop:=∀c∈b,bt c≠123/\bt c≠125
def dJ (x:UInt8×List UInt8):Prop:=(bt x.1=116\/bt x.1=104\/up (bt x.1)=true)/\clean x.2
theorem lS {a b:UInt8}(h:bt a=bt b):a=b:=by
 unfold bt at h
 apply UInt8.toNat_inj.1
 omega
theorem LD {o:List UInt8}{n:Nat}{c:Int}{st:St}(h:aN ⟨2,o,n⟩ c=some st):(c=125/\st.want=0)\/(c≠125/\c≠123/\(st.want=2\/st.want=3\/st.want=4)):=by
 by_cases h25:c=125
 ·left
  subst h25
  simp[aN] at h
  exact ⟨rfl,by rw[<-h.2]⟩
 ·by_cases h23:c=123
  ·subst h23;simp[aN,show up 123=false from by decide] at h
  ·right
   refine ⟨h25,h23,?_⟩
   unfold aN at h
   simp only at h
   repeat' (split at h)
   all_goals first
    | (cases h;done)
    | (cases h;simp)
    | omega
theorem shape (l:List UInt8)(i:Nat)(st:St)(h:iU l i st=none) :
  (st.want=0->∃rs,l=flat rs/\∀x∈rs,dJ x) /\
  (st.want=1->∃b rs,l=123::(b++125::flat rs)/\clean b/\∀x∈rs,dJ x) /\
  (st.want=2\/st.want=3\/st.want=4->∃b rs,l=b++125::flat rs/\clean b/\∀x∈rs,dJ x):=by
 induction l generalizing i st with
 | nil =>
  simp[iU] at h
  refine ⟨fun _=>⟨[],rfl,by simp⟩,fun hw=>by omega,fun hw=>by omega⟩
 | cons c t ih =>
  simp only[iU] at h
  cases hs:aR st (bt c) with
  | none=>rw[hs] at h;cases h
  | some st' =>
   rw[hs] at h
   simp only at h
   obtain ⟨i1,i2,i3⟩:=ih _ _ h
   obtain ⟨want,o,n⟩:=st
   refine ⟨?_,?_,?_⟩
   ·intro hw
    simp only at hw
    subst hw
    simp only[aR,if_true] at hs
    split at hs
    ·next hc =>
     cases hs
     obtain ⟨b,rs,e,hb,hr⟩:=i2 rfl
     refine ⟨(c,b)::rs,by rw[e];rfl,?_⟩
     intro x hx
     simp at hx
     rcases hx with hx|hx
     ·subst hx;exact ⟨hc.2,hb⟩
     ·exact hr x hx
    ·cases hs
   ·intro hw
    simp only at hw
    subst hw
    simp[aR] at hs
    obtain ⟨hc,rfl⟩:=hs
    obtain ⟨b,rs,e,hb,hr⟩:=i3 (Or.inl rfl)
    have hcc:c=123:=lS (by rw[hc];rfl)
    exact ⟨b,rs,by rw[e,hcc],hb,hr⟩
   ·intro hw
    simp only at hw
    have hgo:(bt c=125/\st'.want=0)\/(bt c≠125/\bt c≠123/\(st'.want=2\/st'.want=3\/st'.want=4)):=by
     rcases hw with hw|hw|hw
     ·subst hw
      exact LD (by simpa [aR] using hs)
     ·subst hw
      simp[aR] at hs
      obtain ⟨hc,rfl⟩:=hs
      simp[lk] at hc
      right;exact ⟨by omega,by omega,Or.inl rfl⟩
     ·subst hw
      simp[aR] at hs
      obtain ⟨hc,rfl⟩:=hs
      simp[cl] at hc
      right;exact ⟨by omega,by omega,Or.inl rfl⟩
    rcases hgo with ⟨hc,hw'⟩ | ⟨h1,h2,hw'⟩
    ·obtain ⟨rs,e,hr⟩:=i1 hw'
     have hcc:c=125:=lS (by rw[hc];rfl)
     exact ⟨[],rs,by rw[e,hcc];rfl,by simp[clean],hr⟩
    ·obtain ⟨b,rs,e,hb,hr⟩:=i3 hw'
     refine ⟨c::b,rs,by rw[e];rfl,?_,hr⟩
     intro x hx
     simp at hx
     rcases hx with hx|hx
     ·subst hx;exact ⟨h2,h1⟩
     ·exact hb x hx
theorem EB {l:List UInt8}(h:fault l=none):∃rs,l=flat rs/\∀x∈rs,dJ x:=(shape l 0 _ h).1 rfl
def lay:Nat->List (UInt8×List UInt8)->List Part
 | _,[]=>[]
 | o,x::r=>⟨bt x.1,o,x.2⟩::lay (o+x.2.length+3) r
theorem dS (a b:List UInt8)(i:Nat):at_ (a++b) (a.length+i)=at_ b i:=by
 simp[at_,List.getElem?_append_right]
theorem iG (a b:List UInt8)(i j:Nat)(h:i=a.length+j):at_ (a++b) i=at_ b j:=by rw[h,dS]
theorem zk (c:UInt8)(b rest:List UInt8):at_ (c::123::(b++125::rest)) 0=bt c/\at_ (c::123::(b++125::rest)) 1=123 /\
  (∀j,j<b.length->at_ (c::123::(b++125::rest)) (2+j)=at_ b j)/\at_ (c::123::(b++125::rest)) (2+b.length)=125/\(∀j,at_ (c::123::(b++125::rest)) (3+b.length+j)=at_ rest j):=by
 refine ⟨rfl,rfl,?_,?_,?_⟩
 ·intro j hj
  have e:at_ (c::123::(b++125::rest)) (2+j)=at_ (b++125::rest) j:=by rw[Nat.add_comm];rfl
  rw[e];simp[at_,List.getElem?_append_left hj]
 ·have e:at_ (c::123::(b++125::rest)) (2+b.length)=at_ (b++125::rest) b.length:=by rw[Nat.add_comm];rfl
  rw[e,iG b _ b.length 0 rfl];rfl
 ·intro j
  have e:at_ (c::123::(b++125::rest)) (3+b.length+j)=at_ (b++125::rest) (b.length+(1+j)):=by
   rw[show 3+b.length+j=(b.length+(1+j))+2 from by omega];rfl
  rw[e,dS,Nat.add_comm];rfl
theorem vv (x:UInt8×List UInt8)(r:List (UInt8×List UInt8)):(flat (x::r)).length=x.2.length+3+(flat r).length:=by
 simp[flat];omega
theorem rP (pre:List UInt8)(x:UInt8×List UInt8)(r:List (UInt8×List UInt8)):pre++flat (x::r)=(pre++(x.1::123::(x.2++[125])))++flat r:=by simp[flat]
theorem kC (pre:List UInt8)(x:UInt8×List UInt8):(pre++(x.1::123::(x.2++[125]))).length=pre.length+x.2.length+3:=by simp;omega
theorem Ib (b rest:List UInt8)(hb:clean b):(b++125::rest).takeWhile (fun c=>!(((c.toNat:Nat):Int)==125))=b:=by
 induction b with
 | nil=>simp[List.takeWhile]
 | cons c t ih =>
  have hc:=(hb c (by simp)).2
  have:(!(((c.toNat:Nat):Int)==125))=true:=by simpa [bt] using hc
  simp only[List.cons_append,List.takeWhile,this]
  rw[ih (fun y hy=>hb y (by simp[hy]))]
theorem qb (rs:List (UInt8×List UInt8))(pre:List UInt8)(h:∀x∈rs,dJ x):∀p∈lay pre.length rs,
  at_ (pre++flat rs) p.pos=p.letter/\body (pre++flat rs) p.pos=p.body/\(p.letter=116\/p.letter=104\/up p.letter=true)/\pre.length<=p.pos/\clean p.body/\p.pos+p.body.length+3<=(pre++flat rs).length:=by
 induction rs generalizing pre with
 | nil=>intro p hp;simp[lay] at hp
 | cons x r ih =>
  intro p hp
  simp only[lay,List.mem_cons] at hp
  obtain ⟨hx1,hx2⟩:=h x (by simp)
  rcases hp with hp|hp
  ·subst hp
   refine ⟨?_,?_,hx1,Nat.le_refl _,hx2,?_⟩
   ·rw[iG pre _ pre.length 0 rfl];rfl
   ·unfold body
    simp only
    rw[show pre.length+2=pre.length+2 from rfl,List.drop_append]
    simp only[Nat.add_sub_cancel_left,List.drop_of_length_le (show pre.length<=pre.length+2 by omega),List.nil_append,flat,List.drop_succ_cons,List.drop_zero]
    exact Ib _ _ hx2
   ·simp[flat];omega
  ·have e:=rP pre x r
   have:=ih (pre++(x.1::123::(x.2++[125]))) (fun y hy=>h y (by simp[hy])) p (by rw[kC];exact hp)
   rw[<-e,kC] at this
   exact ⟨this.1,this.2.1,this.2.2.1,by omega,this.2.2.2.2.1,this.2.2.2.2.2⟩
theorem rX (rs:List (UInt8×List UInt8))(o:Nat):∀p∈lay o rs,o<=p.pos:=by
 induction rs generalizing o with
 | nil=>intro p hp;simp[lay] at hp
 | cons x r ih =>
  intro p hp
  simp only[lay,List.mem_cons] at hp
  rcases hp with hp|hp
  ·subst hp;exact Nat.le_refl _
  ·have:=ih _ p hp;omega
theorem xV (rs:List (UInt8×List UInt8))(o:Nat):(lay o rs).Pairwise (fun a b=>a.pos<b.pos):=by
 induction rs generalizing o with
 | nil=>exact List.Pairwise.nil
 | cons x r ih =>
  simp only[lay]
  refine List.Pairwise.cons ?_ (ih _)
  intro q hq
  have:=rX r _ q hq
  simp only
  omega
theorem SH (l:List UInt8)(i:Nat)(h:l.length<=i):at_ l i=0:=by simp[at_,List.getElem?_eq_none h]
theorem EC {b:List UInt8}(hb:clean b)(i:Nat):at_ b i≠123/\at_ b i≠125:=by
 by_cases h:i<b.length
 ·obtain ⟨c,hc,e⟩:=at_mem h
  rw[e];exact hb c hc
 ·rw[SH b i (by omega)];omega
theorem LF (rs:List (UInt8×List UInt8))(h:∀x∈rs,dJ x):at_ (flat rs) 0≠123/\at_ (flat rs) 0≠125:=by
 cases rs with
 | nil=>simp[flat,at_]
 | cons x r =>
  have hx:=(h x (by simp)).1
  have e:at_ (flat (x::r)) 0=bt x.1:=rfl
  rw[e]
  rcases hx with hx|hx|hx
  ·omega
  ·omega
  ·simp[up] at hx;omega
theorem xW (rs:List (UInt8×List UInt8))(pre:List UInt8)(h:∀x∈rs,dJ x)(i:Nat)(hi:pre.length<=i) :
  heads (pre++flat rs) i=true↔∃p∈lay pre.length rs,p.pos=i:=by
 induction rs generalizing pre with
 | nil =>
  constructor
  ·intro hh;simp[heads,flat] at hh;omega
  ·rintro ⟨p,hp,_⟩;simp[lay] at hp
 | cons x r ih =>
  obtain ⟨hx1,hx2⟩:=h x (by simp)
  obtain ⟨a0,a1,a2,a3,a4⟩:=zk x.1 x.2 (flat r)
  have hfr:=LF r (fun y hy=>h y (by simp[hy]))
  by_cases hnext:pre.length+x.2.length+3<=i
  ·have:=ih (pre++(x.1::123::(x.2++[125]))) (fun y hy=>h y (by simp[hy])) (by rw[kC];omega)
   rw[<-rP,kC] at this
   rw[this]
   constructor
   ·rintro ⟨p,hp,e⟩;exact ⟨p,by simp[lay,hp],e⟩
   ·rintro ⟨p,hp,e⟩
    simp only[lay,List.mem_cons] at hp
    rcases hp with hp|hp
    ·subst hp;simp only at e;omega
    ·exact ⟨p,hp,e⟩
  ·by_cases hz:i=pre.length
   ·subst hz
    constructor
    ·intro _;exact ⟨_,by simp only[lay,List.mem_cons];exact Or.inl rfl,rfl⟩
    ·intro _
     have e:=iG pre (flat (x::r)) (pre.length+1) 1 rfl
     have e1:at_ (flat (x::r)) 1=123:=a1
     simp only[heads,e,e1]
     simp[vv];omega
   ·constructor
    ·intro hh
     exfalso
     simp[heads] at hh
     have hh2:=hh.2
     obtain ⟨k,hk⟩:∃k,i+1=pre.length+(2+k):=⟨i+1-pre.length-2,by omega⟩
     rw[iG pre (flat (x::r)) (i+1) (2+k) hk] at hh2
     by_cases hkb:k<x.2.length
     ·have e:at_ (flat (x::r)) (2+k)=at_ x.2 k:=a2 k hkb
      rw[e] at hh2
      exact (EC hx2 k).1 hh2
     ·by_cases hke:k=x.2.length
      ·have e:at_ (flat (x::r)) (2+x.2.length)=125:=a3
       rw[hke,e] at hh2;omega
      ·have hk1:k=x.2.length+1:=by omega
       have e:at_ (flat (x::r)) (3+x.2.length+0)=at_ (flat r) 0:=a4 0
       rw[show 2+k=3+x.2.length+0 from by omega,e] at hh2
       exact hfr.1 hh2
    ·rintro ⟨p,hp,e⟩
     exfalso
     simp only[lay,List.mem_cons] at hp
     rcases hp with hp|hp
     ·subst hp;simp only at e;omega
     ·have:=rX r _ p hp;omega
end Wd
namespace Wd
theorem Jh (l:List UInt8)(k n:Nat)(h:∀i,k<=i->i<k+n->at_ l i≠125):bS l (k+n)=bS l k:=by
 induction n with
 | zero=>rfl
 | succ n ih =>
  rw[show k+(n+1)=(k+n)+1 from rfl,bS,ih (fun i h1 h2=>h i h1 (by omega)),lC,if_neg]
  exact fun hh=>h (k+n) (by omega) (by omega) hh.1
theorem LG (rs:List (UInt8×List UInt8))(pre:List UInt8)(h:∀x∈rs,dJ x)(ps:List Part)(F:Nat->Fn)(hs:bS (pre++flat rs) pre.length=⟨pre.length,ps,F⟩) :
  bS (pre++flat rs) (pre++flat rs).length=⟨(pre++flat rs).length,ps++lay pre.length rs,(lay pre.length rs).foldl fu F⟩:=by
 induction rs generalizing pre ps F with
 | nil=>simp[flat,lay] at hs ⊢;exact hs
 | cons x r ih =>
  obtain ⟨hx1,hx2⟩:=h x (by simp)
  obtain ⟨a0,a1,a2,a3,a4⟩:=zk x.1 x.2 (flat r)
  have hst:bS (pre++flat (x::r)) (pre.length+(2+x.2.length))=⟨pre.length,ps,F⟩:=by
   rw[Jh _ _ _ ?_,hs]
   intro i h1 h2
   obtain ⟨k,hk⟩:∃k,i=pre.length+k:=⟨i-pre.length,by omega⟩
   rw[iG pre _ i k hk]
   have e:flat (x::r)=x.1::123::(x.2++125::flat r):=rfl
   rw[e]
   by_cases k0:k=0
   ·rw[k0,a0]
    rcases hx1 with hx|hx|hx
    ·omega
    ·omega
    ·simp[up] at hx;omega
   ·by_cases k1:k=1
    ·rw[k1,a1];omega
    ·obtain ⟨j,hj⟩:∃j,k=2+j:=⟨k-2,by omega⟩
     rw[hj,a2 j (by omega)]
     exact (EC hx2 j).2
  have hc:at_ (pre++flat (x::r)) (pre.length+(2+x.2.length))=125:=by
   rw[dS];exact a3
  have hpart:partOf (pre++flat (x::r)) pre.length (pre.length+(2+x.2.length))=⟨bt x.1,pre.length,x.2⟩:=by
   unfold partOf
   congr 1
   ·rw[iG pre _ pre.length 0 rfl];rfl
   ·rw[List.drop_append]
    simp only[Nat.add_sub_cancel_left,List.drop_of_length_le (show pre.length<=pre.length+2 by omega),List.nil_append,flat,List.drop_succ_cons,List.drop_zero]
    rw[show pre.length+(2+x.2.length)-(pre.length+2)=x.2.length from by omega]
    simp
  have hstep:bS (pre++flat (x::r)) (pre++(x.1::123::(x.2++[125]))).length=⟨(pre++(x.1::123::(x.2++[125]))).length,ps++[⟨bt x.1,pre.length,x.2⟩],fu F ⟨bt x.1,pre.length,x.2⟩⟩:=by
   rw[kC,show pre.length+x.2.length+3=(pre.length+(2+x.2.length))+1 from by omega,bS,hst,lC,if_pos ⟨hc,by simp only;omega⟩,hpart]
  rw[rP] at hstep ⊢
  rw[ih _ (fun y hy=>h y (by simp[hy])) _ _ hstep,kC]
  simp only[lay,List.foldl_cons,List.append_assoc,List.singleton_append]
theorem ol (rs:List (UInt8×List UInt8))(h:∀x∈rs,dJ x):split (flat rs)=⟨(flat rs).length,lay 0 rs,(lay 0 rs).foldl fu (fun _=>fn0)⟩:=by
 have:=LG rs [] h [] (fun _=>fn0) rfl
 simpa [split] using this
theorem yT (rs:List (UInt8×List UInt8))(h:∀x∈rs,dJ x)(c:Int):head (flat rs) c=((lay 0 rs).find? (fun p=>p.letter==c)).map (·.pos):=by
 have hf:=qb rs [] h
 have hh:∀i,heads (flat rs) i=true↔∃p∈lay 0 rs,p.pos=i:=fun i=>xW rs [] h i (Nat.zero_le _)
 simp only[List.nil_append,List.length_nil] at hf
 unfold head
 cases hq:(lay 0 rs).find? (fun p=>p.letter==c) with
 | none =>
  rw[List.find?_eq_none] at hq
  rw[lJ]
  ·rfl
  ·intro j hj
   cases hb:heads (flat rs) j with
   | false=>simp[mK,hb]
   | true =>
    obtain ⟨p,hp,e⟩:=(hh j).1 hb
    have:=hq p hp
    have e2:=(hf p hp).1
    rw[e] at e2
    simp at this
    simp[mK,e2,this]
 | some p =>
  obtain ⟨hpc,l1,bs,hl,has⟩:=List.find?_eq_some_iff_append.1 hq
  have hp:p∈lay 0 rs:=by rw[hl];simp
  have hs:=xV rs 0
  rw[hl] at hs
  obtain ⟨f1,f2,f3,f4,f5,f6⟩:=hf p hp
  rw[jL (k:=p.pos)]
  ·rfl
  ·omega
  ·simp at hpc
   simp[mK,f1,hpc,(hh p.pos).2 ⟨p,hp,rfl⟩]
  ·intro j hj
   cases hb:heads (flat rs) j with
   | false=>simp[mK,hb]
   | true =>
    obtain ⟨q,hq2,e⟩:=(hh j).1 hb
    have e2:=(hf q hq2).1
    rw[e] at e2
    rw[hl] at hq2
    simp only[List.mem_append,List.mem_cons] at hq2
    rcases hq2 with hq2|hq2|hq2
    ·have:=has q hq2
     simp at this
     simp[mK,e2,this]
    ·subst hq2;omega
    ·rw[List.pairwise_append] at hs
     have:=(List.pairwise_cons.1 hs.2.1).1 q hq2
     omega
end Wd
namespace Wd
theorem dA (c:Int):up c=true↔65<=c/\c<=72:=by simp[up]
theorem LJ (F:Nat->Fn)(p:Part)(j:Nat):((fu F p) j).there=true↔(F j).there=true\/(p.letter=65+(j:Int)/\j<8):=by
 unfold fu
 by_cases hu:up p.letter=true
 ·rw[if_pos hu]
  have hu':=(dA _).1 hu
  by_cases e:j=(p.letter-65).toNat
  ·rw[if_pos e]
   simp only[true_iff]
   right;omega
  ·rw[if_neg e]
   constructor
   ·exact fun h=>Or.inl h
   ·rintro (h|h)
    ·exact h
    ·exfalso;omega
 ·rw[if_neg hu]
  constructor
  ·exact fun h=>Or.inl h
  ·rintro (h|h)
   ·exact h
   ·exfalso;apply hu;rw[dA];omega
theorem LK (ps:List Part)(F:Nat->Fn)(j:Nat):((ps.foldl fu F) j).there=true↔(F j).there=true\/(j<8/\∃p∈ps,p.letter=65+(j:Int)):=by
 induction ps generalizing F with
 | nil=>simp
 | cons p r ih =>
  rw[List.foldl_cons,ih,LJ]
  constructor
  ·rintro ((h|h) | ⟨h,q,hq,e⟩)
   ·exact Or.inl h
   ·exact Or.inr ⟨h.2,p,by simp,h.1⟩
   ·exact Or.inr ⟨h,q,by simp[hq],e⟩
  ·rintro (h | ⟨h,q,hq,e⟩)
   ·exact Or.inl (Or.inl h)
   ·simp at hq
    rcases hq with hq|hq
    ·subst hq;exact Or.inl (Or.inr ⟨e,h⟩)
    ·exact Or.inr ⟨h,q,hq,e⟩
theorem xX {l:List UInt8}{i:Nat}(h:up (at_ l i)=false):iO l i=false:=by simp[iO,h]
theorem toInt_neg (o:Option Nat):toInt o<0↔o=none:=by
 cases o with
 | none=>simp[toInt]
 | some i=>simp[toInt]
def bR (rs:List (UInt8×List UInt8)):Nat->Fn:=(lay 0 rs).foldl fu (fun _=>fn0)
theorem NM (rs:List (UInt8×List UInt8))(h:∀x∈rs,dJ x)(c:Int)(hc:up c=true):head (flat rs) c=none↔(bR rs (c-65).toNat).there=false:=by
 rw[yT rs h c,Option.map_eq_none_iff,List.find?_eq_none]
 have hu:=(dA c).1 hc
 rw[<-Bool.not_eq_true,bR,LK]
 constructor
 ·rintro hh (h1 | ⟨_,p,hp,e⟩)
  ·simp[fn0] at h1
  ·apply hh p hp;simp;omega
 ·intro hh p hp e
  apply hh
  simp at e
  exact Or.inr ⟨by omega,p,hp,by omega⟩
theorem LM (rs0:List (UInt8×List UInt8))(h0:∀x∈rs0,dJ x)(rs:List (UInt8×List UInt8))(pre:List UInt8)(hl:flat rs0=pre++flat rs)(qs:List Part)(hPS:lay 0 rs0=qs++lay pre.length rs)
  (h:∀x∈rs,dJ x) (seen:Nat->Bool) (zN:∀j,j<8->(seen j=true↔∃q∈qs,q.letter=65+(j:Int))) (hno:∀i,i<pre.length->iO (flat rs0) i=false) :
  fD (flat rs0)=jN (bR rs0) (lay pre.length rs) seen:=by
 induction rs generalizing pre qs seen with
 | nil =>
  simp only[lay,jN]
  apply lJ
  intro j hj
  apply hno
  rw[hl] at hj
  simpa [flat] using hj
 | cons x r ih =>
  obtain ⟨hx1,hx2⟩:=h x (by simp)
  obtain ⟨a0,a1,a2,a3,a4⟩:=zk x.1 x.2 (flat r)
  have hat:∀k,at_ (flat rs0) (pre.length+k)=at_ (flat (x::r)) k:=fun k=>by rw[hl,dS]
  have hlen:(flat rs0).length=pre.length+(x.2.length+3+(flat r).length):=by rw[hl,List.length_append,vv]
  have hsort:=xV rs0 0
  have lU:=qb rs0 [] h0
  simp only[List.nil_append,List.length_nil] at lU
  rw[hPS] at hsort
  have kR:lay pre.length (x::r)=⟨bt x.1,pre.length,x.2⟩::lay (pre.length+x.2.length+3) r:=rfl
  have sD:∀q∈qs,q.pos<pre.length:=by
   intro q hq
   rw[List.pairwise_append] at hsort
   exact hsort.2.2 q hq ⟨bt x.1,pre.length,x.2⟩ (by rw[kR];simp)
  have rY:∀i,heads (flat rs0) i=true↔∃p∈lay 0 rs0,p.pos=i:=fun i=>xW rs0 [] h0 i (Nat.zero_le _)
  have hin:(⟨bt x.1,pre.length,x.2⟩:Part)∈lay 0 rs0:=by rw[hPS,kR];simp
  have hown:iO (flat rs0) pre.length=true↔(up (bt x.1)=true/\seen (bt x.1-65).toNat=true):=by
   have e:at_ (flat rs0) pre.length=bt x.1:=by have:=hat 0;simpa using this.trans a0
   cases hu:up (bt x.1) with
   | false=>rw[xX (by rw[e];exact hu)];simp
   | true =>
    have hu':=(dA _).1 hu
    have hhd:heads (flat rs0) pre.length=true:=(rY _).2 ⟨_,hin,rfl⟩
    simp only[iO,e,hu,hhd,Bool.true_and,true_and,Bool.or_eq_true,decide_eq_true_eq]
    rw[yT rs0 h0]
    rw[zN _ (by omega)]
    constructor
    ·rintro (hneg|hlt)
     ·rw[toInt_neg,Option.map_eq_none_iff,List.find?_eq_none] at hneg
      exact absurd (by simp) (hneg _ hin)
     ·cases hq:(lay 0 rs0).find? (fun p=>p.letter==bt x.1) with
      | none=>rw[List.find?_eq_none] at hq;exact absurd (by simp) (hq _ hin)
      | some q =>
       rw[hq] at hlt
       simp[toInt] at hlt
       have hqm:=List.mem_of_find?_eq_some hq
       have hqc:=List.find?_some hq
       simp at hqc
       rw[hPS,List.mem_append] at hqm
       rcases hqm with hqm|hqm
       ·exact ⟨q,hqm,by omega⟩
       ·have:=rX _ _ q hqm;omega
    ·rintro ⟨q,hq,e2⟩
     right
     have hpos:=sD q hq
     rw[hPS,List.find?_append]
     have:(qs.find? (fun p=>p.letter==bt x.1)).isSome=true:=by
      rw[List.find?_isSome];exact ⟨q,hq,by simp;omega⟩
     cases hf:qs.find? (fun p=>p.letter==bt x.1) with
     | none=>rw[hf] at this;cases this
     | some q2 =>
      have:=sD q2 (List.mem_of_find?_eq_some hf)
      simp[toInt];omega
  have hbody:∀j,j<x.2.length->iO (flat rs0) (pre.length+(2+j))=mo (bR rs0) x.2 j:=by
   intro j hj
   have e:at_ (flat rs0) (pre.length+(2+j))=at_ x.2 j:=(hat _).trans (a2 j hj)
   have hnh:heads (flat rs0) (pre.length+(2+j))=false:=by
    rw[<-Bool.not_eq_true,rY]
    rintro ⟨p,hp,e2⟩
    rw[hPS,List.mem_append] at hp
    rcases hp with hp|hp
    ·have:=sD p hp;omega
    ·rw[kR] at hp
     simp only[List.mem_cons] at hp
     rcases hp with hp|hp
     ·subst hp;simp only at e2;omega
     ·have:=rX _ _ p hp;omega
   simp only[iO,mo,e,hnh,Bool.false_and,Bool.or_false]
   cases hu:up (at_ x.2 j) with
   | false=>rfl
   | true =>
    simp only[Bool.true_and]
    have:=NM rs0 h0 _ hu
    cases ht:(bR rs0 (at_ x.2 j-65).toNat).there with
    | false=>rw[this.2 ht];rfl
    | true =>
     have:¬head (flat rs0) (at_ x.2 j)=none:=fun hn=>by rw[this.1 hn] at ht;cases ht
     rw[<-toInt_neg] at this
     simp[this]
  have hbr:iO (flat rs0) (pre.length+1)=false:=xX (by rw[(hat 1).trans a1];decide)
  have hcl:iO (flat rs0) (pre.length+(2+x.2.length))=false:=xX (by rw[(hat _).trans a3];decide)
  rw[kR,jN]
  simp only
  by_cases hc:up (bt x.1)=true/\seen (bt x.1-65).toNat=true
  ·rw[if_pos hc]
   exact jL (by omega) (hown.2 hc) hno
  ·rw[if_neg hc]
   have hown':iO (flat rs0) pre.length=false:=by rw[<-Bool.not_eq_true,hown];exact hc
   have hpre:∀k,k<2->iO (flat rs0) (pre.length+k)=false:=by
    intro k hk
    match k,hk with
    | 0,_=>simpa using hown'
    | 1,_=>exact hbr
   cases mQ:unknown (bR rs0) x.2 with
   | some u =>
    simp only
    have hul:=xU mQ
    have hu1:mo (bR rs0) x.2 u=true:=by
     unfold unknown first at mQ;exact List.find?_some mQ
    have hu2:∀j,j<u->mo (bR rs0) x.2 j=false:=by
     intro j hj
     unfold unknown first at mQ
     rw[List.find?_range_eq_some] at mQ
     simpa using mQ.2.2 j hj
    rw[show pre.length+2+u=pre.length+(2+u) from by omega]
    refine jL (by omega) (by rw[hbody u hul];exact hu1) ?_
    intro j hj
    by_cases j0:j<pre.length
    ·exact hno j j0
    ·obtain ⟨k,hk⟩:∃k,j=pre.length+k:=⟨j-pre.length,by omega⟩
     subst hk
     by_cases k2:k<2
     ·exact hpre k k2
     ·obtain ⟨m,hm⟩:∃m,k=2+m:=⟨k-2,by omega⟩
      subst hm
      rw[hbody m (by omega)];exact hu2 m (by omega)
   | none =>
    simp only
    have hu2:∀j,j<x.2.length->mo (bR rs0) x.2 j=false:=by
     intro j hj
     unfold unknown first at mQ
     rw[List.find?_range_eq_none] at mQ
     simpa using mQ j hj
    have hl2:flat rs0=(pre++(x.1::123::(x.2++[125])))++flat r:=by rw[hl,rP]
    have:=ih (pre++(x.1::123::(x.2++[125]))) hl2 (qs++[⟨bt x.1,pre.length,x.2⟩]) (by rw[hPS,kR,kC];simp) (fun y hy=>h y (by simp[hy]))
     (if up (bt x.1)=true then (fun j=>if j=(bt x.1-65).toNat then true else seen j) else seen) ?_ ?_
    ·rw[kC] at this;exact this
    ·intro j hj
     by_cases hu:up (bt x.1)=true
     ·have hu':=(dA _).1 hu
      rw[if_pos hu]
      by_cases e:j=(bt x.1-65).toNat
      ·rw[if_pos e]
       simp only[true_iff]
       exact ⟨_,by simp only[List.mem_append,List.mem_singleton];exact Or.inr rfl,by simp only;omega⟩
      ·rw[if_neg e,zN j hj]
       constructor
       ·rintro ⟨q,hq,e2⟩;exact ⟨q,by simp[hq],e2⟩
       ·rintro ⟨q,hq,e2⟩
        simp only[List.mem_append,List.mem_singleton] at hq
        rcases hq with hq|hq
        ·exact ⟨q,hq,e2⟩
        ·subst hq;simp only at e2;exfalso;omega
     ·rw[if_neg hu,zN j hj]
      constructor
      ·rintro ⟨q,hq,e2⟩;exact ⟨q,by simp[hq],e2⟩
      ·rintro ⟨q,hq,e2⟩
       simp only[List.mem_append,List.mem_singleton] at hq
       rcases hq with hq|hq
       ·exact ⟨q,hq,e2⟩
       ·subst hq;simp only at e2;exfalso;apply hu;rw[dA];omega
    ·intro i hi
     rw[kC] at hi
     by_cases j0:i<pre.length
     ·exact hno i j0
     ·obtain ⟨k,hk⟩:∃k,i=pre.length+k:=⟨i-pre.length,by omega⟩
      subst hk
      by_cases k2:k<2
      ·exact hpre k k2
      ·obtain ⟨m,hm⟩:∃m,k=2+m:=⟨k-2,by omega⟩
       subst hm
       by_cases hm2:m<x.2.length
       ·rw[hbody m hm2];exact hu2 m hm2
       ·have:m=x.2.length:=by omega
        rw[this];exact hcl
theorem uP (rs:List (UInt8×List UInt8))(h:∀x∈rs,dJ x):names (split (flat rs)).F (split (flat rs)).ps=fD (flat rs):=by
 rw[ol rs h]
 exact (LM rs h rs [] rfl [] rfl h (fun _=>false) (by simp) (by simp)).symm
end Wd
namespace Wd
theorem PW (C:Nat->Bool)(k i:Nat)(hk:k<8)(hi:i<8)(m:Nat)(hm:m<=8)(x y:Nat)(hx:x<8)(hy:y<8) :
  lY C k i m (x*8+y)=if x=i/\y<m then (C (i*8+y)||(C (i*8+k)&&C (k*8+y))) else C (x*8+y):=by
 induction m generalizing x y with
 | zero=>simp[lY]
 | succ m ih =>
  have h1:=ih (by omega) i m hi (by omega)
  have h2:=ih (by omega) i k hi hk
  have h3:=ih (by omega) k m hk (by omega)
  have h4:=ih (by omega) x y hx hy
  rw[if_neg (by omega)] at h1 h3
  have h2':lY C k i m (i*8+k)=C (i*8+k):=by
   rw[h2]
   split
   ·cases C (i*8+k)<;>simp
   ·rfl
  simp only[lY,upd]
  by_cases e:x*8+y=i*8+m
  ·have e1:x=i:=by omega
   have e2:y=m:=by omega
   subst e1 e2
   rw[if_pos rfl,h1,h2',h3,if_pos ⟨rfl,by omega⟩]
  ·rw[if_neg e,h4]
   by_cases hc:x=i/\y<m
   ·rw[if_pos hc,if_pos ⟨hc.1,by omega⟩]
   ·rw[if_neg hc,if_neg (by omega)]
theorem PX (B:Nat->Bool)(k:Nat)(hk:k<8)(n:Nat)(hn:n<=8)(x y:Nat)(hx:x<8)(hy:y<8) :
  kI B k n (x*8+y)=if x<n then (B (x*8+y)||(B (x*8+k)&&B (k*8+y))) else B (x*8+y):=by
 induction n generalizing x y with
 | zero=>simp[kI]
 | succ n ih =>
  simp only[kI]
  rw[PW _ k n hk (by omega) 8 (by omega) x y hx hy]
  have h1:=ih (by omega) n y (by omega) hy
  have h2:=ih (by omega) n k (by omega) hk
  have h3:=ih (by omega) k y hk hy
  have h4:=ih (by omega) x y hx hy
  rw[if_neg (by omega)] at h1 h2
  have h3':kI B k n (k*8+y)=B (k*8+y):=by
   rw[h3]
   split
   ·cases B (k*8+y)<;>simp
   ·rfl
  by_cases e:x=n
  ·subst e
   rw[if_pos ⟨rfl,hy⟩,h1,h2,h3',if_pos (by omega)]
  ·rw[if_neg (by omega),h4]
   by_cases hc:x<n
   ·rw[if_pos hc,if_pos (by omega)]
   ·rw[if_neg hc,if_neg (by omega)]
theorem rz (b:Nat->Bool)(k:Nat)(hk:k<8)(x y:Nat)(hx:x<8)(hy:y<8) :
  eu b (k+1) (x*8+y)=(eu b k (x*8+y)||(eu b k (x*8+k)&&eu b k (k*8+y))):=by
 simp only[eu]
 rw[PX _ k hk 8 (by omega) x y hx hy,if_pos hx]
theorem LP (b:Nat->Bool)(k:Nat)(hk:k<=8)(x y:Nat)(hx:x<8)(hy:y<8)(h:b (x*8+y)=true):eu b k (x*8+y)=true:=by
 induction k with
 | zero=>exact h
 | succ k ih=>rw[rz b k (by omega) x y hx hy,ih (by omega)];rfl
theorem Kc (b:Nat->Bool)(k:Nat)(hk:k<=8)(x m y:Nat)(hx:x<8)(hmk:m<k)(hy:y<8)(h1:eu b k (x*8+m)=true)(h2:eu b k (m*8+y)=true):eu b k (x*8+y)=true:=by
 induction k generalizing x m y with
 | zero=>omega
 | succ k ih =>
  have hm:m<8:=by omega
  rw[rz b k (by omega) _ _ hx hm] at h1
  rw[rz b k (by omega) _ _ hm hy] at h2
  rw[rz b k (by omega) _ _ hx hy]
  simp only[Bool.or_eq_true,Bool.and_eq_true] at h1 h2 ⊢
  by_cases e:m=k
  ·subst e
   have a1:eu b m (x*8+m)=true:=by
    rcases h1 with h1|h1
    ·exact h1
    ·exact h1.1
   have a2:eu b m (m*8+y)=true:=by
    rcases h2 with h2|h2
    ·exact h2
    ·exact h2.2
   exact Or.inr ⟨a1,a2⟩
  ·have hlt:m<k:=by omega
   have ih':=ih (by omega)
   rcases h1 with h1 | ⟨h1,h1'⟩
   ·rcases h2 with h2 | ⟨h2,h2'⟩
    ·exact Or.inl (ih' x m y hx hlt hy h1 h2)
    ·exact Or.inr ⟨ih' x m k hx hlt (by omega) h1 h2,h2'⟩
   ·rcases h2 with h2 | ⟨h2,h2'⟩
    ·exact Or.inr ⟨h1,ih' k m y (by omega) hlt hy h1' h2⟩
    ·exact Or.inr ⟨h1,h2'⟩
theorem Ke (b:Nat->Bool)(S:Nat->Nat->Prop)(hS:∀x y,x<8->y<8->b (x*8+y)=true->S x y)(hT:∀x m y,x<8->m<8->y<8->S x m->S m y->S x y)(k:Nat)(hk:k<=8)(x y:Nat)(hx:x<8)(hy:y<8)
  (h:eu b k (x*8+y)=true):S x y:=by
 induction k generalizing x y with
 | zero=>exact hS x y hx hy h
 | succ k ih =>
  rw[rz b k (by omega) _ _ hx hy] at h
  simp only[Bool.or_eq_true,Bool.and_eq_true] at h
  rcases h with h | ⟨h1,h2⟩
  ·exact ih (by omega) x y hx hy h
  ·exact hT x k y hx (by omega) hy (ih (by omega) x k hx (by omega) h1) (ih (by omega) k y (by omega) hy h2)
def reach (b:Nat->Bool)(x y:Nat):Bool:=eu b 8 (x*8+y)
theorem uI {b:Nat->Bool}{x m y:Nat}(hx:x<8)(hm:m<8)(hy:y<8)(h1:reach b x m=true)(h2:reach b m y=true):reach b x y=true:=Kc b 8 (by omega) x m y hx hm hy h1 h2
theorem rF {b:Nat->Bool}{x y:Nat}(hx:x<8)(hy:y<8)(h:b (x*8+y)=true):reach b x y=true:=LP b 8 (by omega) x y hx hy h
theorem Co {b:Nat->Bool}{x y:Nat}(hx:x<8)(hy:y<8)(h:reach b x y=true):∃g,g<8/\b (x*8+g)=true/\(g=y\/reach b g y=true):=by
 refine Ke b (fun x y=>∃g,g<8/\b (x*8+g)=true/\(g=y\/reach b g y=true)) ?_ ?_ 8 (by omega) x y hx hy h
 ·intro x y _ hy hb;exact ⟨y,hy,hb,Or.inl rfl⟩
 ·rintro x m y hx hm hy ⟨g,hg,hb,hgm⟩ ⟨g',hg',hb',hgy⟩
  have hmy:reach b m y=true:=by
   rcases hgy with e|e
   ·subst e;exact rF hm hg' hb'
   ·exact uI hm hg' hy (rF hm hg' hb') e
  refine ⟨g,hg,hb,Or.inr ?_⟩
  rcases hgm with e|e
  ·subst e;exact hmy
  ·exact uI hg hm hy e hmy
def count (b:Nat->Bool)(x:Nat):Nat:=(List.range 8).countP (reach b x)
theorem D6 {p q:Nat->Bool}(l:List Nat)(h:∀x∈l,p x=true->q x=true)(hx:∃x∈l,q x=true/\p x=false):l.countP p<l.countP q:=by
 induction l with
 | nil=>simp at hx
 | cons a r ih =>
  have hle:r.countP p<=r.countP q:=List.countP_mono_left (fun y hy=>h y (by simp[hy]))
  obtain ⟨x,hxm,hq,hp⟩:=hx
  simp only[List.mem_cons] at hxm
  rcases hxm with e|hxm
  ·subst e
   rw[List.countP_cons_of_neg (by simp[hp]),List.countP_cons_of_pos hq]
   omega
  ·have:=ih (fun y hy=>h y (by simp[hy])) ⟨x,hxm,hq,hp⟩
   by_cases ha:p a=true
   ·rw[List.countP_cons_of_pos ha,List.countP_cons_of_pos (h a (by simp) ha)];omega
   ·rw[List.countP_cons_of_neg ha]
    by_cases hqa:q a=true
    ·rw[List.countP_cons_of_pos hqa];omega
    ·rw[List.countP_cons_of_neg hqa];omega
theorem yU {b:Nat->Bool}(eG:∀i,i<8->reach b i i=false){x g:Nat}(hx:x<8)(hg:g<8)(h:b (x*8+g)=true):count b g<count b x:=by
 refine D6 _ ?_ ⟨g,by simpa using hg,rF hx hg h,eG g hg⟩
 intro y hy hr
 exact uI hx hg (by simpa using hy) (rF hx hg h) hr
theorem qi {b:Nat->Bool}(eG:∀i,i<8->reach b i i=false){x:Nat}(hx:x<8):count b x<8:=by
 have:=D6 (p:=reach b x) (q:=fun _=>true) (List.range 8) (by simp) ⟨x,by simpa using hx,rfl,eG x hx⟩
 simpa [count] using this
end Wd
end Go.Proofs.YtecmfdkhcffpmaaGreat
