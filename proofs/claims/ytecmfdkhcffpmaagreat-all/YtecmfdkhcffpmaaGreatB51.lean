/- KpS, KpT, KpV. -/
import Derived.Test.YtecmfdkhcffpmaaGreatB50
import Derived.Test.YtecmfdkhcffpmaaGreatB39
namespace Go.Proofs.YtecmfdkhcffpmaaGreat
open Go.RowKit
set_option linter.unusedVariables false
set_option linter.unusedSimpArgs false
set_option linter.unusedSectionVars false
set_option maxHeartbeats 8000000
set_option maxRecDepth 100000
section
open Mc
namespace Mc
open Wd
def FS (its:List It)(hd:Bool)(f:Fr)(off:Bool):Prop:=f.there=true->Rch hd (ah its f.item) (f.pos,f.held,off)
theorem FS.no (its:List It)(hd off:Bool):FS its hd aH off:=fun h=>by simp[aH] at h
structure SI (its:List It)(S:Ma):Prop where
 t:∀c,FS its false (S.cp c).t (S.cp c).off
 h:∀c,FS its true (S.cp c).h true
 off:∀c,(S.cp c).h.there=true->(S.cp c).off=false
 rd:∀i,S.rd i=true->Rch false (ah its i) (S.pl i,0,false)
 u1:∀c d,(S.cp c).t.there=true->(S.cp d).t.there=true->(S.cp c).t.item=(S.cp d).t.item->c=d
 u2:∀c,(S.cp c).t.there=true->S.rd (S.cp c).t.item=false
 one:∀l c d,aY (S.cp c) l=true->aY (S.cp d) l=true->c=d
theorem SI.aM (its:List It):SI its (aM its):=by
 refine ⟨fun c=>FS.no _ _ _,fun c=>FS.no _ _ _,fun c h=>rfl,fun i _=>Rch.begin,fun c d h=>?_,fun c h=>?_,fun l c d h=>?_⟩
 ·simp[Mc.aM,bU,aH] at h
 ·simp[Mc.aM,bU,aH] at h
 ·simp[Mc.aM,bU,aH,aY,holds] at h
theorem SI.av {its:List It}{S:Ma}(h:SI its S)(c:Nat)(x:Cp)(ht:FS its false x.t x.off)(hh:FS its true x.h true)(ho:x.h.there=true->x.off=false)
  (hu1:x.t.there=true->∀d,d≠c->(S.cp d).t.there=true->(S.cp d).t.item≠x.t.item) (hu2:x.t.there=true->S.rd x.t.item=false)
  (hone:∀l,aY x l=true->∀d,d≠c->aY (S.cp d) l=false):SI its (av S c x):=by
 have e1:(Mc.av S c x).cp c=x:=by simp[Mc.av]
 have e2:∀d,d≠c->(Mc.av S c x).cp d=S.cp d:=fun d hd=>by simp[Mc.av,hd]
 refine ⟨fun d=>?_,fun d=>?_,fun d=>?_,h.rd,fun a d ha hd he=>?_,fun d hd=>?_,fun l a d ha hd=>?_⟩
 ·by_cases e:d=c
  ·subst e;rw[e1];exact ht
  ·rw[e2 d e];exact h.t d
 ·by_cases e:d=c
  ·subst e;rw[e1];exact hh
  ·rw[e2 d e];exact h.h d
 ·by_cases e:d=c
  ·subst e;rw[e1];exact ho
  ·rw[e2 d e];exact h.off d
 ·by_cases ea:a=c
  ·subst ea
   by_cases ed:d=a
   ·exact ed.symm
   ·rw[e1] at ha he;rw[e2 d ed] at hd he
    exact absurd he.symm (hu1 ha d ed hd)
  ·by_cases ed:d=c
   ·subst ed
    rw[e1] at hd he;rw[e2 a ea] at ha he
    exact absurd he (hu1 hd a ea ha)
   ·rw[e2 a ea] at ha he;rw[e2 d ed] at hd he
    exact h.u1 a d ha hd he
 ·by_cases e:d=c
  ·subst e;rw[e1] at hd ⊢;exact hu2 hd
  ·rw[e2 d e] at hd ⊢;exact h.u2 d hd
 ·by_cases ea:a=c
  ·subst ea
   by_cases ed:d=a
   ·exact ed.symm
   ·rw[e1] at ha;rw[e2 d ed] at hd
    rw[hone l ha d ed] at hd;cases hd
  ·by_cases ed:d=c
   ·subst ed
    rw[e1] at hd;rw[e2 a ea] at ha
    rw[hone l hd a ea] at ha;cases ha
   ·rw[e2 a ea] at ha;rw[e2 d ed] at hd
    exact h.one l a d ha hd
theorem SI.sub {its:List It}{S:Ma}(h:SI its S)(c:Nat)(x:Cp)(hx:∀l,aY x l=true->aY (S.cp c) l=true):∀l,aY x l=true->∀d,d≠c->aY (S.cp d) l=false:=by
 intro l hl d hd
 cases hq:aY (S.cp d) l
 ·rfl
 ·exact absurd (h.one l d c hq (hx l hl)) hd
theorem SI.sI {its:List It}{S:Ma}(h:SI its S)(c:Nat):(S.cp c).t.there=true->∀d,d≠c->(S.cp d).t.there=true->(S.cp d).t.item≠(S.cp c).t.item :=
 fun ht d hd hdt e=>hd (h.u1 d c hdt ht e)
theorem SI.ready {its:List It}{S:Ma}(h:SI its S)(i p:Nat)(hr:Rch false (ah its i) (p,0,false))(hn:∀d,(S.cp d).t.there=true->(S.cp d).t.item≠i):SI its (bA (aQ S i true) i p):=by
 refine ⟨h.t,h.h,h.off,fun j hj=>?_,h.u1,fun d hd=>?_,h.one⟩
 ·by_cases e:j=i
  ·subst e;simp only[bA,aQ,if_true];exact hr
  ·simp only[bA,aQ,e,if_false] at hj ⊢;exact h.rd j hj
 ·have:=hn d hd
  simp only[bA,aQ] at this ⊢
  rw[if_neg this];exact h.u2 d hd
theorem K7 (S:Ma)(i p c:Nat)(b:Bool)(x:Cp):Mc.av (bA (aQ S i b) i p) c x=bA (aQ (Mc.av S c x) i b) i p:=rfl
theorem SI.goes {its:List It}{S:Ma}(h:SI its S)(c p:Nat)(hth:(S.cp c).t.there=true)(hh:(S.cp c).h.there=false)(hr:Rch false (ah its (S.cp c).t.item) (p,0,false)) :
  SI its (Mc.av (bA (aQ S (S.cp c).t.item true) (S.cp c).t.item p) c {(S.cp c) with t:=aH,off:=false}):=by
 rw[K7]
 have hs:SI its (Mc.av S c {(S.cp c) with t:=aH,off:=false}) :=
  h.av c _ (FS.no _ _ _) (h.h c) (fun _=>rfl) (fun e=>by simp[aH] at e) (fun e=>by simp[aH] at e)
   (h.sub c _ fun l hl=>by
    simp only[aY,aH,holds,Nat.zero_testBit,Bool.false_or] at hl
    simp only[aY,holds,hl,Bool.or_true])
 refine hs.ready _ _ hr (fun d hd=>?_)
 by_cases e:d=c
 ·subst e;simp[Mc.av,aH] at hd
 ·simp only[Mc.av,e,if_false] at hd ⊢
  exact h.sI c hth d e hd
theorem Pp (S:Ma)(c p:Nat)(ho:(S.cp c).off=false):leaves S c p=Mc.av (bA (aQ S (S.cp c).t.item true) (S.cp c).t.item p) c {(S.cp c) with t:=aH,off:=false}:=by
 unfold leaves
 rw[<-ho]
theorem Q6:∀h,h<64->∀k,k<6->∀l,l<6->(Nat.testBit h k||!Nat.testBit (h+2 ^ k) l||Nat.testBit h l||l==k)=true:=by decide
theorem Sr (h:Nat)(hh:h<64)(k:Nat)(hk:k<6)(h1:Nat.testBit h k=false)(l:Nat)(hl:l<6)(h2:Nat.testBit (h+2 ^ k) l=true):Nat.testBit h l=true\/l=k:=by
 have:=Q6 h hh k hk l hl
 rw[h1,h2] at this
 simpa using this
theorem Q7:∀h,h<64->∀k,k<6->∀l,l<6->(!Nat.testBit h k||!Nat.testBit (h-2 ^ k) l||Nat.testBit h l)=true:=by decide
theorem Sv (h:Nat)(hh:h<64)(k:Nat)(hk:k<6)(h1:Nat.testBit h k=true)(l:Nat)(hl:l<6)(h2:Nat.testBit (h-2 ^ k) l=true):Nat.testBit h l=true:=by
 have:=Q7 h hh k hk l hl
 rw[h1,h2] at this
 simpa using this
theorem Sw {h l:Nat}(hh:h<64)(hl:Nat.testBit h l=true):l<6:=by
 by_cases e:l<6
 ·exact e
 ·rw[Nat.testBit_lt_two_pow (show h<2 ^ l from Nat.lt_of_lt_of_le hh (by rw[show (64:Nat)=2 ^ 6 from rfl];exact Nat.pow_le_pow_right (by decide) (by omega)))] at hl
  cases hl
theorem Q8 {b:List UInt8}(hg:GB b){hd:Bool}{s:St3}(hs:s.2.1<64)(comma:Bool)(l:Nat)(h:(stp hd b s comma).2.1.testBit l=true):s.2.1.testBit l=true\/(atB b s.1=43/\l=(num b s.1).toNat):=by
 unfold stp aS at h
 split at h
 ·rename_i hf
  have h64:=Dx (comma:=comma) hg.pair hs hf
  have hl:=Sw h64 h
  unfold aG at h
  by_cases e43:atB b s.1=43
  ·rw[if_pos e43] at h
   have hn:=jD hg.pair (Or.inl e43)
   unfold aB at hf
   rw[if_pos e43,ku hg.pair (Or.inl e43)] at hf
   have hq:holds s.2.1 (num b s.1).toNat=false:=by
    cases hq:holds s.2.1 (num b s.1).toNat
    ·rfl
    ·rw[hq] at hf;simp at hf
   rcases Sr _ hs _ (by omega) hq l hl h with h|h
   ·exact Or.inl h
   ·exact Or.inr ⟨e43,h⟩
  rw[if_neg e43] at h
  by_cases e45:atB b s.1=45
  ·rw[if_pos e45] at h
   have hn:=jD hg.pair (Or.inr e45)
   unfold aB at hf
   rw[if_neg e43,if_pos e45,ku hg.pair (Or.inr e45)] at hf
   have hq:holds s.2.1 (num b s.1).toNat=true:=by
    cases hq:holds s.2.1 (num b s.1).toNat
    ·rw[hq] at hf;simp at hf
    ·rfl
   exact Or.inl (Sv _ hs _ (by omega) hq l hl h)
  rw[if_neg e45] at h
  left
  revert h
  repeat' split
  all_goals exact fun h=>h
 ·exact Or.inl h
theorem FK {b:List UInt8}{s:St3}(hs:s.2.2=true)(comma:Bool):(stp true b s comma).2.2=true:=by
 unfold stp aS
 split
 ·rename_i hf
  unfold aG
  by_cases e62:atB b s.1=62
  ·unfold aB at hf
   simp[e62] at hf
  repeat' split
  all_goals first|exact hs|rfl|(exfalso;omega)
 ·exact hs
theorem Ev {hd:Bool}{b:List UInt8}{p h:Nat}{off comma:Bool}(e:(aS hd b p h off comma).2=122):hd=false/\off=false/\h=0/\(aS hd b p h off comma).1=(p+1,0,false):=by
 have hv:=mZ hd b p h off
 unfold aS at e ⊢
 by_cases hf:aB hd b p h off=0
 ·rw[if_pos hf] at e ⊢
  have e:atB b p=122:=e
  have hn:aG b p h off comma=(p+1,h,off):=by simp[aG,e]
  unfold aB at hf
  rw[if_neg (by omega),if_neg (by omega),if_pos e] at hf
  have:¬(hd=true\/off=true\/(h==0)=false):=by intro hh;rw[if_pos hh] at hf;cases hf
  simp only[not_or] at this
  have h1:hd=false:=by simpa using this.1
  have h2:off=false:=by simpa using this.2.1
  have h3:h=0:=by simpa using this.2.2
  refine ⟨h1,h2,h3,?_⟩
  rw[hn,h2,h3]
 ·rw[if_neg hf] at e
  simp only at e
  omega
theorem SI.works {its:List It}{S:Ma}(h:SI its S)(hi:Inv its 3 S)(c:Nat)(hc:c<3)(hth:(works S c).there=true):Rch (isH its (works S c).item) (ah its (works S c).item) ((works S c).pos,(works S c).held,aJ S c):=by
 have hk:=(iB hi c hc).kind hth
 rw[hk]
 unfold Mc.works aJ at *
 cases e:(S.cp c).h.there
 ·rw[e] at hth
  simp only[Bool.false_eq_true,if_false] at hth ⊢
  exact h.t c hth
 ·simp only[if_true]
  exact h.h c e
theorem Pq {its:List It}{S:Ma}{c:Nat}{f:Fr}(hr:Rest 3 S)(h:bY its S c f=0)(e:atB (ah its f.item) f.pos=43):∀d,aY (S.cp d) (num (ah its f.item) f.pos).toNat=false:=by
 unfold bY oJ at h
 rw[if_pos e] at h
 cases hl:holder S 3 (num (ah its f.item) f.pos).toNat with
 | none =>
  intro d
  by_cases hd:d<3
  ·exact Cs hl d hd
  ·rw[hr d (by omega)];exact yh _
 | some d =>
  rw[hl] at h
  simp only at h
  split at h
  ·cases h
  ·split at h<;>cases h
theorem wC {S:Ma}{c:Nat}(e:(S.cp c).h.there=true):works S c=(S.cp c).h:=by unfold works;rw[if_pos e]
theorem ow {S:Ma}{c:Nat}(e:(S.cp c).h.there=false):works S c=(S.cp c).t:=by unfold works;rw[if_neg (by rw[e];decide)]
theorem SI.step {its:List It}(hf:bH its){S:Ma}(h:SI its S)(hi:Inv its 3 S)(hs:Ats its 3 S)(hr:Rest 3 S)(c:Nat)(hc:c<3)(comma:Bool):SI its (step its S 3 c comma).2:=by
 rw[<-vB hf hi hs hr c hc comma]
 unfold stepM
 simp only
 by_cases mR:(Mc.works S c).there=false
 ·rw[if_pos mR];exact h
 have hth:(Mc.works S c).there=true:=by simpa using mR
 rw[if_neg mR]
 by_cases hh:bY its S c (Mc.works S c)≠0
 ·rw[if_pos hh];exact h
 rw[if_neg hh]
 have hh:bY its S c (Mc.works S c)=0:=by simpa using hh
 have hR:=h.works hi c hc hth
 have hfr:=iB hi c hc
 have hk:=hfr.kind hth
 have hg:=hf.gb (hfr.item hth)
 by_cases fC:(aS (isH its (Mc.works S c).item) (ah its (Mc.works S c).item) (Mc.works S c).pos (Mc.works S c).held (aJ S c) comma).2=122
 ·rw[if_pos fC]
  obtain ⟨k1,k2,k3,k4⟩:=Ev fC
  have hht:(S.cp c).h.there=false:=by rw[<-hk];exact k1
  have ew:=ow hht
  have hq:=hR.step comma
  unfold stp at hq
  simp only at hq
  rw[k4,k1,ew] at hq
  rw[k4]
  unfold fB
  rw[if_neg (show ¬((bA (aQ S (Mc.works S c).item true) (Mc.works S c).item (((Mc.works S c).pos+1,0,false):St3).1).cp c).h.there=true from by show ¬(S.cp c).h.there=true;rw[hht];decide)]
  rw[ew] at hth ⊢
  exact h.goes c _ hth hht hq
 rw[if_neg fC]
 by_cases sQ:(aS (isH its (Mc.works S c).item) (ah its (Mc.works S c).item) (Mc.works S c).pos (Mc.works S c).held (aJ S c) comma).2=101
 ·rw[if_pos sQ]
  unfold fB
  cases hht:(S.cp c).h.there
  ·simp only[Bool.false_eq_true,if_false]
   refine h.av c _ (FS.no _ _ _) (h.h c) (fun _=>rfl) (fun e=>by simp[aH] at e) (fun e=>by simp[aH] at e) (h.sub c _ fun l hl=>?_)
   simp only[aY,aH,holds,Nat.zero_testBit,Bool.false_or] at hl
   simp only[aY,holds,hl,Bool.or_true]
  ·simp only[if_true]
   refine h.av c _ (h.t c) (FS.no _ _ _) (fun e=>by simp[aH] at e) (h.sI c) (h.u2 c) (h.sub c _ fun l hl=>?_)
   simp only[aY,aH,holds,Nat.zero_testBit,Bool.or_false] at hl
   simp only[aY,holds,hl,Bool.true_or]
 rw[if_neg sQ]
 simp only
 have hq:=hR.step comma
 have qK:=fun l=>Q8 (hd:=isH its (Mc.works S c).item) hg (s:=((Mc.works S c).pos,(Mc.works S c).held,aJ S c)) hfr.held comma l
 have hoff:=fun (e:isH its (Mc.works S c).item=true)=>FK (b:=ah its (Mc.works S c).item) (s:=((Mc.works S c).pos,(Mc.works S c).held,true)) rfl comma
 have hfree:=Pq (c:=c) hr hh
 have hst:(aS (isH its (Mc.works S c).item) (ah its (Mc.works S c).item) (Mc.works S c).pos (Mc.works S c).held (aJ S c) comma).1=stp (isH its (Mc.works S c).item) (ah its (Mc.works S c).item) ((Mc.works S c).pos,(Mc.works S c).held,aJ S c) comma:=rfl
 rw[hst]
 unfold fB
 cases hht:(S.cp c).h.there
 ·have ew:=ow hht
  have hfo:aJ S c=(S.cp c).off:=by unfold aJ;rw[if_neg (by rw[hht];decide)]
  rw[hht] at hk
  rw[hk] at hq qK ⊢
  rw[ew,hfo] at hq qK ⊢
  rw[ew] at hfree hth
  generalize stp false (ah its (S.cp c).t.item) ((S.cp c).t.pos,(S.cp c).t.held,(S.cp c).off) comma=z at *
  simp only[Bool.false_eq_true,if_false]
  refine h.av c _ (fun _=>hq) (h.h c) (fun e=>by rw[hht] at e;cases e) (fun _=>h.sI c hth) (fun _=>h.u2 c hth) ?_
  intro l hl d hd
  simp only[aY,Bool.or_eq_true] at hl
  have hcp:aY (S.cp c) l=true->aY (S.cp d) l=false:=fun e=>by
   cases hq:aY (S.cp d) l
   ·rfl
   ·exact absurd (h.one l d c hq e) hd
  rcases hl with hl|hl
  ·rcases qK l hl with h1 | ⟨h1,h2⟩
   ·exact hcp (by simp only[aY,Bool.or_eq_true];exact Or.inl h1)
   ·rw[h2];exact hfree h1 d
  ·exact hcp (by simp only[aY,Bool.or_eq_true];exact Or.inr hl)
 ·have ew:=wC hht
  have hfo:aJ S c=true:=by unfold aJ;rw[if_pos hht]
  rw[hht] at hk
  have hoff:=hoff hk
  rw[hk] at hq qK ⊢
  rw[ew,hfo] at hq qK ⊢
  rw[ew] at hfree hth hoff
  generalize stp true (ah its (S.cp c).h.item) ((S.cp c).h.pos,(S.cp c).h.held,true) comma=z at *
  simp only[if_true]
  have hz:(z.1,z.2.1,true)=z:=by rw[<-hoff]
  refine h.av c _ (h.t c) (fun _=>?_) (fun _=>h.off c hht) (h.sI c) (h.u2 c) ?_
  ·show Rch true _ (z.1,z.2.1,true)
   rw[hz];exact hq
  intro l hl d hd
  simp only[aY,Bool.or_eq_true] at hl
  have hcp:aY (S.cp c) l=true->aY (S.cp d) l=false:=fun e=>by
   cases hq:aY (S.cp d) l
   ·rfl
   ·exact absurd (h.one l d c hq e) hd
  rcases hl with hl|hl
  ·exact hcp (by simp only[aY,Bool.or_eq_true];exact Or.inl hl)
  ·rcases qK l hl with h1 | ⟨h1,h2⟩
   ·exact hcp (by simp only[aY,Bool.or_eq_true];exact Or.inr h1)
   ·rw[h2];exact hfree h1 d
theorem SI.comes {its:List It}{S:Ma}(h:SI its S)(hi:Inv its 3 S)(c:Nat)(hc:c<3)(i:Nat):SI its (comes its S c i).2:=by
 unfold Mc.comes
 split
 ·exact h
 rename_i h1
 simp only[not_or] at h1
 have hht:(S.cp c).h.there=false:=by simpa using h1.2
 have UZ:(S.cp c).h=aH:=(hi.h c hc).none hht
 split
 ·rename_i h2
  split
  ·exact h
  ·rename_i h3
   have h3:(S.cp c).off=false:=by simpa using h3
   refine h.av c _ (h.t c) (fun _=>Rch.begin) (fun _=>h3) (h.sI c) (h.u2 c) (h.sub c _ fun l hl=>?_)
   simp only[aY,holds,Nat.zero_testBit,Bool.or_false] at hl
   simp only[aY,holds,hl,Bool.true_or]
 ·split
  ·exact h
  ·rename_i h3
   simp only[not_or] at h3
   have ht:(S.cp c).t.there=false:=by simpa using h3.1
   have hrd:S.rd i=true:=by simpa using h3.2
   have ho:(S.cp c).off=false:=by
    cases e:(S.cp c).off
    ·rfl
    ·have:=hi.off c hc e;rw[ht] at this;cases this
   have hno:(S.cp c).t=aH:=(hi.t c hc).none ht
   have hS:SI its (aQ S i false):=by
    refine ⟨h.t,h.h,h.off,fun j hj=>?_,h.u1,fun d hd=>?_,h.one⟩
    ·by_cases e:j=i
     ·subst e;simp[aQ] at hj
     ·simp only[aQ,e,if_false] at hj ⊢;exact h.rd j hj
    ·have:=h.u2 d hd
     simp only[aQ]
     split
     ·rfl
     ·exact this
   refine hS.av c _ (fun _=>?_) (h.h c) (fun e=>by rw[show ({(S.cp c) with t:=(⟨true,i,S.pl i,0⟩:Fr)}:Cp).h.there=(S.cp c).h.there from rfl,hht] at e;cases e) (fun _ d hd hdt e=>?_) (fun _=>by simp[aQ]) (hS.sub c _ fun l hl=>?_)
   ·show Rch false _ (S.pl i,0,(S.cp c).off)
    rw[ho];exact h.rd i hrd
   ·have e2:=h.u2 d hdt
    have e:(S.cp d).t.item=i:=e
    rw[e,hrd] at e2;cases e2
   ·simp only[aY,holds,Nat.zero_testBit,Bool.false_or,UZ] at hl
    simp[aH] at hl
theorem SI.command {its:List It}(hf:bH its){S:Ma}(h:SI its S)(hi:Inv its 3 S)(hs:Ats its 3 S)(hr:Rest 3 S)(c:Nat)(hc:c<3)(what:Int):SI its (command its S 3 c what).2:=by
 unfold Mc.command
 split
 ·exact h.step hf hi hs hr c hc _
 split
 ·exact h.comes hi c hc _
 split
 ·exact h
 ·rename_i h1
  simp only[not_or] at h1
  obtain ⟨h1,h2,h3,h4⟩:=h1
  have a1:(S.cp c).t.there=true:=by simpa using h1
  have a2:(S.cp c).h.there=false:=by simpa using h2
  have a3:(S.cp c).t.held=0:=by omega
  have a4:(S.cp c).off=false:=by simpa using h4
  have:=h.t c a1
  rw[a3,a4] at this
  rw[Pp S c _ a4]
  exact h.goes c _ a1 a2 this
structure nV (its:List It)(S:Ma):Prop where
 inv:Inv its 3 S
 ats:Ats its 3 S
 rest:Rest 3 S
 si:SI its S
theorem nV.aM (its:List It):nV its (aM its):=⟨Inv.aM its 3,Ats.aM its 3,Rest.aM its 3,SI.aM its⟩
theorem nV.command {its:List It}(hf:bH its){S:Ma}(h:nV its S)(c:Nat)(hc:c<3)(what:Int):nV its (command its S 3 c what).2 :=
 ⟨h.inv.command hf.ok c hc what,h.ats.command hf h.inv c hc what,h.rest.command 3 c hc what,h.si.command hf h.inv h.ats h.rest c hc what⟩
end Mc
end
section
open Mc
namespace Mc
open Wd
theorem Rch.place {b:List UInt8}(hg:GB b){hd:Bool}{s:St3}(h:Rch hd b s):s.1<b.length+1:=by
 have:=(h.ok hg).2.le;omega
theorem Bb {S:Ma}{l:Nat}:∀(m k d:Nat),dY S l k m=some d->aY (S.cp d) l=true
 | 0,_,_,h=>by cases h
 | m+1,k,d,h=>by
  rw[dY] at h
  split at h
  ·rename_i e;cases h;exact e
  ·exact Bb m (k+1) d h
theorem K8 {S:Ma}{n l d:Nat}(h:holder S n l=some d):aY (S.cp d) l=true:=Bb n 0 d h
theorem Bp {its:List It}{S:Ma}{c:Nat}{x own:Int}:∀(m d:Nat),dO its S c x own d m=true->∃k,d<=k/\k<d+m/\fP its S c x own k=true
 | 0,_,h=>by cases h
 | m+1,d,h=>by
  rw[dO] at h
  split at h
  ·rename_i e;exact ⟨d,Nat.le_refl _,by omega,e⟩
  ·obtain ⟨k,h1,h2,h3⟩:=Bp m (d+1) h
   exact ⟨k,by omega,by omega,h3⟩
theorem Q9 {S:Ma}{c l:Nat}(h:holds (works S c).held l=true):aY (S.cp c) l=true:=by
 simp only[aY,Bool.or_eq_true]
 unfold works at h
 split at h
 ·exact Or.inr h
 ·exact Or.inl h
theorem DK {v:Int}(h:jS v):bad v=false:=by
 unfold jS at h
 rcases h with h|h|h|h|h|h|h|h|h|h|h|h|h<;>rw[h]<;>rfl
def oM (t:List UInt8):Int:=match t.getLast? with
 | none=>0
 | some c=>if bad (bt c)=true then bt c else 0
end Mc
end
section
open Mc
namespace Mc
open Wd
inductive Chn (hd:Bool) (b:List UInt8):St3->List Rc->St3->Prop
 | nil (s:St3):Chn hd b s [] s
 | cons {s t:St3}(r:Rc) (rs:List Rc) (h:r.st=stp hd b s r.comma) (hne:r.st≠s) (hr:Chn hd b r.st rs t):Chn hd b s (r::rs) t
theorem Chn.snoc {hd:Bool}{b:List UInt8}{s t:St3}{rs:List Rc}(h:Chn hd b s rs t)(r:Rc)(h1:r.st=stp hd b t r.comma)(h2:r.st≠t):Chn hd b s (rs++[r]) r.st:=by
 induction h with
 | nil s=>exact .cons r [] h1 h2 (.nil _)
 | cons q qs a c hq ih=>exact .cons q _ a c (ih h1 h2)
theorem FL {hd:Bool}{b:List UInt8}{L:List Rc}(hF:iP hd b L):∀(j:Nat) (r:Rc),L[j]?=some r->Chn hd b (0,0,hd) (bV L j) r.st:=by
 have hfr:=hF.fr
 obtain ⟨i,f,hI,_⟩:=hF
 intro j
 induction j using Nat.strongRecOn with
 | ind j ih =>
  intro r hr
  by_cases h0:j=0
  ·subst h0
   rw[hI.head] at hr
   cases hr
   unfold bV
   rw[pU]
   exact .nil _
  ·obtain ⟨q,h1,h2,h3⟩:=hI.back j r (by omega) hr
   have e:bV L j=bV L r.fr++[r]:=by
    unfold bV
    cases j with
    | zero=>exact absurd rfl h0
    | succ n=>rw[uE h0 hr,Cg hfr n r.fr r.fr (by omega) (Nat.le_refl _),List.reverse_cons]
   rw[e]
   refine (ih r.fr h1 q h2).snoc r h3 (fun hst=>?_)
   have hs:r.sn=q.sn:=by
    have e1:r.p=q.p/\r.h=q.h/\r.off=q.off:=by simpa [Rc.st] using hst
    unfold Rc.sn
    rw[e1.1,e1.2.1,e1.2.2]
   have n1:(L.map Rc.sn)[j]?=some r.sn:=by rw[List.getElem?_map,hr];rfl
   have n2:(L.map Rc.sn)[r.fr]?=some r.sn:=by rw[List.getElem?_map,h2,hs];rfl
   have hj1:=(List.getElem?_eq_some_iff.1 n1).1
   have hj2:=(List.getElem?_eq_some_iff.1 n2).1
   have e1:=(List.getElem?_eq_some_iff.1 n1).2
   have e2:=(List.getElem?_eq_some_iff.1 n2).2
   exact absurd (e2.trans e1.symm) (List.pairwise_iff_getElem.1 hI.nd r.fr j hj2 hj1 h1)
structure AtS (its:List It)(i:Nat)(s:St3)(S:Ma):Prop where
 all:nV its S
 rest:Rest 1 S
 wk:works S 0=⟨true,i,s.1,s.2.1⟩
 off:aJ S 0=s.2.2
 h:(S.cp 0).h.there=isH its i
 oth:if isH its i=true then (S.cp 0).t=aH/\(S.cp 0).off=false else (S.cp 0).h=aH
theorem AtS.free {its:List It}{i:Nat}{s:St3}{S:Ma}(h:AtS its i s S){l:Nat}(hl:holds s.2.1 l=false):holder S 3 l=none:=by
 cases hq:holder S 3 l with
 | none=>rfl
 | some d =>
  exfalso
  have hd:=K8 hq
  have e0:d=0:=by
   cases d with
   | zero=>rfl
   | succ d=>rw[h.rest (d+1) (by omega),yh] at hd;cases hd
  subst e0
  have hw:=h.wk
  have ho:=h.oth
  simp only[aY,Bool.or_eq_true] at hd
  cases hh:isH its i
  ·rw[hh] at ho
   simp only[Bool.false_eq_true,if_false] at ho
   have hht:=h.h
   rw[hh] at hht
   rw[ow hht] at hw
   rw[hw,ho] at hd
   rcases hd with hd|hd
   ·rw[hl] at hd;cases hd
   ·simp[aH,holds] at hd
  ·rw[hh] at ho
   simp only[if_true] at ho
   have hht:=h.h
   rw[hh] at hht
   rw[wC hht] at hw
   rw[hw,ho.1] at hd
   rcases hd with hd|hd
   ·simp[aH,holds] at hd
   ·rw[hl] at hd;cases hd
theorem AtS.Sy {its:List It}{i:Nat}{s:St3}{S:Ma}(h:AtS its i s S)(f:Fr):clash its S 3 0 f=false:=by
 cases hq:clash its S 3 0 f
 ·rfl
 ·obtain ⟨d,_,_,hk⟩:=Bp 3 0 hq
  cases d with
  | zero=>unfold fP at hk;simp at hk
  | succ d=>rw[Dt (h.rest (d+1) (by omega))] at hk;cases hk
theorem AtS.item {its:List It}{i:Nat}{s:St3}{S:Ma}(h:AtS its i s S):i<its.length:=by
 have:=(iB h.all.inv 0 (by decide)).item (by rw[h.wk])
 rw[h.wk] at this;exact this
theorem AtS.Hy {its:List It}(hf:bH its){i:Nat}{s:St3}{S:Ma}(h:AtS its i s S)(hn:atB (ah its i) s.1=43->aB (isH its i) (ah its i) s.1 s.2.1 s.2.2=0):bY its S 0 (works S 0)=0:=by
 rw[h.wk]
 unfold bY
 simp only
 have hg:=hf.gb h.item
 by_cases e43:atB (ah its i) s.1=43
 ·rw[if_pos e43]
  have hfa:=hn e43
  unfold aB at hfa
  rw[if_pos e43,ku hg.pair (Or.inl e43)] at hfa
  have hq:holds s.2.1 (num (ah its i) s.1).toNat=false:=by
   cases hq:holds s.2.1 (num (ah its i) s.1).toNat
   ·rfl
   ·rw[hq] at hfa;simp at hfa
  unfold oJ
  rw[h.free hq]
 ·rw[if_neg e43]
  split
  ·rw[h.Sy];rfl
  ·rfl
theorem K9 {hd:Bool}{b:List UInt8}{s:St3}{comma:Bool}(h:stp hd b s comma≠s):aB hd b s.1 s.2.1 s.2.2=0/\atB b s.1≠101:=by
 have h1:aB hd b s.1 s.2.1 s.2.2=0:=by
  by_cases e:aB hd b s.1 s.2.1 s.2.2=0
  ·exact e
  ·exfalso;apply h;unfold stp aS;rw[if_neg e]
 refine ⟨h1,fun e=>h ?_⟩
 unfold stp aS
 rw[if_pos h1]
 simp[aG,e]
theorem step1 {its:List It}(hf:bH its){S:Ma}(h:nV its S)(hr:Rest 1 S)(what:Int):command its S 1 0 what=command its S 3 0 what:=BD hr (by decide) 0 (by decide) what
theorem Ch {its:List It}(S:Ma)(n c:Nat)(comma:Bool):command its S n c (if comma=true then 44 else 46)=step its S n c comma:=by
 unfold command
 cases comma
 ·simp
 ·simp
theorem AtS.go {its:List It}(hf:bH its){i:Nat}{s:St3}{S:Ma}(h:AtS its i s S)(comma:Bool)(hne:stp (isH its i) (ah its i) s comma≠s) :
  (command its S 1 0 (if comma=true then 44 else 46)).1=atB (ah its i) s.1 /\
  (atB (ah its i) s.1≠122->AtS its i (stp (isH its i) (ah its i) s comma) (command its S 1 0 (if comma=true then 44 else 46)).2) /\
  (atB (ah its i) s.1=122->AtS its i (stp (isH its i) (ah its i) s comma) (command its (command its S 1 0 (if comma=true then 44 else 46)).2 1 0 (48+(i:Int))).2/\(command its (command its S 1 0 (if comma=true then 44 else 46)).2 1 0 (48+(i:Int))).1=116):=by
 have hA:=h.all.command hf 0 (by decide) (if comma=true then 44 else 46)
 have hR:=h.rest.command (its:=its) 3 0 (by decide) (if comma=true then 44 else 46)
 rw[step1 hf h.all h.rest]
 rw[Ch] at hA hR ⊢
 obtain ⟨hfa,fw⟩:=K9 hne
 have hhd:=h.Hy hf (fun _=>hfa)
 have hm:=vB hf h.all.inv h.all.ats h.all.rest 0 (by decide) comma
 have hth:(works S 0).there=true:=by rw[h.wk]
 have hst:aS (isH its i) (ah its i) s.1 s.2.1 s.2.2 comma=(stp (isH its i) (ah its i) s comma,atB (ah its i) s.1):=by
  unfold stp aS
  rw[if_pos hfa]
 unfold stepM at hm
 simp only at hm
 rw[if_neg (by rw[hth];decide),if_neg (by rw[hhd];decide)] at hm
 simp only[h.wk,h.off,hst] at hm
 rw[if_neg fw] at hm
 rw[<-hm] at hA hR ⊢
 generalize hz:stp (isH its i) (ah its i) s comma=z at *
 by_cases fC:atB (ah its i) s.1=122
 ·rw[if_pos fC] at hA hR ⊢
  obtain ⟨k1,k2,k3,k4⟩:=Ev (hd:=isH its i) (b:=ah its i) (p:=s.1) (h:=s.2.1) (off:=s.2.2) (comma:=comma) (by rw[hst];exact fC)
  rw[hst] at k4
  simp only at k4
  refine ⟨fC.symm,fun e=>absurd fC e,fun _=>?_⟩
  simp only at hA hR ⊢
  have hht:(S.cp 0).h.there=false:=by rw[h.h];exact k1
  have ho:=h.oth
  rw[k1] at ho
  simp only[Bool.false_eq_true,if_false] at ho
  have hw:=h.wk
  rw[ow hht] at hw
  have hi:=h.item
  have hL:fB (bA (aQ S i true) i z.1) 0 aH false=Mc.av (bA (aQ S i true) i z.1) 0 {(S.cp 0) with t:=aH,off:=false}:=by
   unfold fB
   rw[if_neg (show ¬((bA (aQ S i true) i z.1).cp 0).h.there=true from by show ¬(S.cp 0).h.there=true;rw[hht];decide)]
   rfl
  rw[hL] at hA hR ⊢
  rw[step1 hf hA hR]
  have hA2:=hA.command hf 0 (by decide) (48+(i:Int))
  have hR2:=hR.command (its:=its) 3 0 (by decide) (48+(i:Int))
  have hi8:=hf.len
  have hc:command its (Mc.av (bA (aQ S i true) i z.1) 0 {(S.cp 0) with t:=aH,off:=false}) 3 0 (48+(i:Int))=(116,Mc.av (aQ (Mc.av (bA (aQ S i true) i z.1) 0 {(S.cp 0) with t:=aH,off:=false}) i false) 0 {({(S.cp 0) with t:=aH,off:=false}:Cp) with t:=⟨true,i,z.1,0⟩}):=by
   unfold command
   rw[if_neg (by omega),if_pos (by omega),show (48+(i:Int)-48).toNat=i by omega]
   unfold comes
   have e1:((Mc.av (bA (aQ S i true) i z.1) 0 {(S.cp 0) with t:=aH,off:=false}).cp 0)={(S.cp 0) with t:=aH,off:=false}:=by simp[Mc.av]
   rw[e1,if_neg (by rw[not_or];exact ⟨by omega,by simp[hht]⟩),if_neg (by rw[k1];decide),if_neg (by simp[aH,Mc.av,bA,aQ])]
   simp[Mc.av,bA,aQ]
  rw[hc] at hA2 hR2 ⊢
  refine ⟨⟨hA2,hR2,?_,?_,?_,?_⟩,rfl⟩
  ·rw[ow (by simp[Mc.av,hht])]
   simp[Mc.av,k4]
  ·unfold aJ
   rw[if_neg (by simp[Mc.av,hht]),k4]
   simp[Mc.av]
  ·simp[Mc.av,hht,k1]
  ·rw[k1]
   simp only[Bool.false_eq_true,if_false]
   simp[Mc.av,ho]
 ·rw[if_neg fC] at hA hR ⊢
  refine ⟨rfl,fun _=>?_,fun e=>absurd e fC⟩
  simp only at hA hR ⊢
  have ho:=h.oth
  have hht:=h.h
  unfold fB at hA hR ⊢
  cases hh:isH its i
  ·rw[hh] at ho hht
   simp only[Bool.false_eq_true,if_false] at ho
   rw[if_neg (by rw[hht];decide)] at hA hR ⊢
   refine ⟨hA,hR,?_,?_,?_,?_⟩
   ·rw[ow (by simp[Mc.av,hht])];simp[Mc.av]
   ·unfold aJ
    rw[if_neg (by simp[Mc.av,hht])];simp[Mc.av]
   ·simp[Mc.av,hht,hh]
   ·rw[hh];simp only[Bool.false_eq_true,if_false];simp[Mc.av,ho]
  ·rw[hh] at ho hht
   simp only[if_true] at ho
   rw[if_pos hht] at hA hR ⊢
   have hoff:z.2.2=true:=by
    rw[<-hz,hh]
    refine FK ?_ comma
    rw[<-h.off];unfold aJ;rw[if_pos hht]
   refine ⟨hA,hR,?_,?_,?_,?_⟩
   ·rw[wC (by simp[Mc.av])];simp[Mc.av]
   ·unfold aJ
    rw[if_pos (by simp[Mc.av]),hoff]
   ·simp[Mc.av,hh]
   ·rw[hh];simp only[if_true];simp[Mc.av,ho]
theorem AtS.aM {its:List It}(hf:bH its){i:Nat}(hi:i<its.length):AtS its i (0,0,isH its i) (command its (aM its) 1 0 (48+(i:Int))).2/\bad (command its (aM its) 1 0 (48+(i:Int))).1=false:=by
 have hA0:=nV.aM its
 have hR0:=Rest.aM its 1
 rw[step1 hf hA0 hR0]
 have hA:=hA0.command hf 0 (by decide) (48+(i:Int))
 have hR:=hR0.command (its:=its) 3 0 (by decide) (48+(i:Int))
 have h8:=hf.len
 cases hh:isH its i
 ·have hc:command its (Mc.aM its) 3 0 (48+(i:Int))=(116,Mc.av (aQ (Mc.aM its) i false) 0 {bU with t:=⟨true,i,0,0⟩}):=by
   unfold command
   rw[if_neg (by omega),if_pos (by omega),show (48+(i:Int)-48).toNat=i by omega]
   unfold comes
   rw[if_neg (by rw[not_or];exact ⟨by omega,by simp[Mc.aM,bU,aH]⟩),if_neg (by rw[hh];decide),if_neg (by simp[Mc.aM,bU,aH,hh])]
   rfl
  rw[hc] at hA hR ⊢
  refine ⟨⟨hA,hR,?_,?_,?_,?_⟩,rfl⟩
  ·rw[ow (by simp[Mc.av,bU,aH])];simp[Mc.av]
  ·unfold aJ;rw[if_neg (by simp[Mc.av,bU,aH])];simp[Mc.av,bU]
  ·simp[Mc.av,bU,aH,hh]
  ·rw[hh];simp[Mc.av,bU]
 ·have hc:command its (Mc.aM its) 3 0 (48+(i:Int))=(104,Mc.av (Mc.aM its) 0 {bU with h:=⟨true,i,0,0⟩}):=by
   unfold command
   rw[if_neg (by omega),if_pos (by omega),show (48+(i:Int)-48).toNat=i by omega]
   unfold comes
   rw[if_neg (by rw[not_or];exact ⟨by omega,by simp[Mc.aM,bU,aH]⟩),if_pos hh,if_neg (by simp[Mc.aM,bU])]
   rfl
  rw[hc] at hA hR ⊢
  refine ⟨⟨hA,hR,?_,?_,?_,?_⟩,rfl⟩
  ·rw[wC (by simp[Mc.av])];simp[Mc.av]
  ·unfold aJ;rw[if_pos (by simp[Mc.av])]
  ·simp[Mc.av,hh]
  ·rw[hh];simp[Mc.av,bU]
theorem AtS.wrong {its:List It}(hf:bH its){i:Nat}{s:St3}{S:Ma}(h:AtS its i s S)(hn:aB (isH its i) (ah its i) s.1 s.2.1 s.2.2≠0):(command its S 1 0 46).1=aB (isH its i) (ah its i) s.1 s.2.1 s.2.2:=by
 rw[step1 hf h.all h.rest]
 have e:=Ch (its:=its) S 3 0 false
 simp only[Bool.false_eq_true,if_false] at e
 rw[e,<-vB hf h.all.inv h.all.ats h.all.rest 0 (by decide) false]
 have hth:(works S 0).there=true:=by rw[h.wk]
 have hg:=hf.gb h.item
 unfold stepM
 simp only
 rw[if_neg (by rw[hth];decide)]
 by_cases e43:atB (ah its i) s.1=43
 ·have hfa:aB (isH its i) (ah its i) s.1 s.2.1 s.2.2=68/\holds s.2.1 (num (ah its i) s.1).toNat=true:=by
   unfold aB at hn ⊢
   rw[if_pos e43,ku hg.pair (Or.inl e43)] at hn ⊢
   cases hq:holds s.2.1 (num (ah its i) s.1).toNat
   ·rw[hq] at hn;simp at hn
   ·exact ⟨rfl,rfl⟩
  have hh:bY its S 0 (works S 0)=68:=by
   unfold bY
   rw[h.wk]
   simp only
   rw[if_pos e43]
   unfold oJ
   have hcp:aY (S.cp 0) (num (ah its i) s.1).toNat=true:=Q9 (by rw[h.wk];exact hfa.2)
   have hho:holder S 3 (num (ah its i) s.1).toNat=some 0:=by
    unfold holder dY
    rw[if_pos hcp]
   rw[hho]
   simp
  rw[hh,if_pos (by decide),hfa.1]
 ·have hh:=h.Hy hf (fun e=>absurd e e43)
  rw[hh,if_neg (by decide)]
  simp only[h.wk,h.off]
  have hst:aS (isH its i) (ah its i) s.1 s.2.1 s.2.2 false=(s,aB (isH its i) (ah its i) s.1 s.2.1 s.2.2):=by
   unfold aS
   rw[if_neg hn]
  rw[hst]
  simp only
  have hv:=mZ (isH its i) (ah its i) s.1 s.2.1 s.2.2
  rw[if_neg (by omega),if_neg (by omega)]
theorem F9 (c:Bool):bt (if c=true then (44:UInt8) else 46)=if c=true then 44 else 46:=by cases c<;>rfl
theorem drive {its:List It}(hf:bH its){i:Nat}{s t:St3}{rs:List Rc}(hc:Chn (isH its i) (ah its i) s rs t)(hn:aB (isH its i) (ah its i) t.1 t.2.1 t.2.2≠0):∀S,AtS its i s S->oM (cB its 1 S (dZ i (ah its i) s.1 rs))=aB (isH its i) (ah its i) t.1 t.2.1 t.2.2:=by
 have hbad:bad (aB (isH its i) (ah its i) t.1 t.2.1 t.2.2)=true:=by
  rcases mZ (isH its i) (ah its i) t.1 t.2.1 t.2.2 with h|h|h|h|h|h
  ·exact absurd h hn
  all_goals rw[h];rfl
 induction hc with
 | nil t =>
  intro S h
  have hw:=h.wrong hf hn
  unfold dZ
  rw[cB,show (bt 48-48).toNat=0 from rfl,show bt 46=46 from rfl,hw,if_pos hbad]
  unfold oM
  simp only[List.getLast?_singleton]
  rw[<-hw,Po,hw,if_pos hbad]
 | @cons s t r rs h1 h2 hr ih =>
  intro S h
  rw[h1] at h2
  have hg:=h.go hf r.comma h2
  have hst:=(hf.gb h.item).stands (by have:=h.all.ats.works 0 (by decide) (by rw[h.wk]);rw[h.wk] at this;exact this)
  have hnb:bad (command its S 1 0 (if r.comma=true then 44 else 46)).1=false:=by rw[hg.1];exact DK hst
  have nZ:∀(x:UInt8) (T:List UInt8),T≠[]->oM (x::T)=oM T:=by
   intro x T hT
   unfold oM
   cases T with
   | nil=>exact absurd rfl hT
   | cons y T=>simp[List.getLast?_cons_cons]
  have hne:∀S',AtS its i (stp (isH its i) (ah its i) s r.comma) S'->cB its 1 S' (dZ i (ah its i) r.p rs)≠[]:=by
   intro S' hS'
   cases rs<;>simp[dZ,cB]
  have hrp:r.st.1=r.p:=rfl
  rw[h1] at ih
  have Az:(stp (isH its i) (ah its i) s r.comma).1=r.p:=by rw[<-h1];rfl
  have ih:=ih hn hbad
  rw[Az] at ih
  unfold dZ
  rw[List.cons_append,List.cons_append,List.nil_append,cB,show (bt 48-48).toNat=0 from rfl,F9]
  generalize (if r.comma=true then (44:Int) else 46)=o at hg hnb ⊢
  rw[if_neg (by rw[hnb];decide)]
  by_cases fC:atB (ah its i) s.1=122
  ·obtain ⟨g1,g2⟩:=hg.2.2 fC
   have hi:=h.item
   have h8:=hf.len
   rw[if_pos fC,List.cons_append,List.cons_append,List.nil_append,cB,show (bt 48-48).toNat=0 from rfl,oL (by omega),show ((48+i:Nat):Int)=48+(i:Int) by omega,if_neg (by rw[g2];decide)]
   rw[nZ _ _ (by simp),nZ _ _ (hne _ g1)]
   exact ih _ g1
  ·have g:=hg.2.1 fC
   rw[if_neg fC,List.nil_append,nZ _ _ (hne _ g)]
   exact ih _ g
theorem DL (i:Nat)(hi:i<8)(b:List UInt8):∀(rs:List Rc) (p:Nat),aX (1:Nat) (dZ i b p rs)=true/\(dZ i b p rs).length<=4*rs.length+2
 | [],p=>⟨by unfold dZ;decide,by simp[dZ]⟩
 | r::rs,p=>by
  have ih:=DL i hi b rs r.p
  have hd:gJ (bt (b8 (48+i)))=true:=by rw[oL (by omega)];simp[gJ];omega
  unfold dZ
  constructor
  ·rw[List.cons_append,List.cons_append,List.nil_append,aX]
   have ho:gJ (bt (if r.comma=true then (44:UInt8) else 46))=true:=by cases r.comma<;>rfl
   rw[ho]
   split
   ·rw[List.cons_append,List.cons_append,List.nil_append,aX,hd,ih.1];decide
   ·rw[List.nil_append,ih.1];decide
  ·have h4:((if atB b p=122 then [48,b8 (48+i)] else []):List UInt8).length<=2:=by split<;>simp
   simp only[List.length_append,List.length_cons,List.length_nil]
   omega
theorem Nl {its:List It}(hf:bH its){i:Nat}(hi:i<its.length){L:List Rc}(hF:iP (isH its i) (ah its i) L){j:Nat}{r:Rc}(hr:L[j]?=some r)(hn:aB (isH its i) (ah its i) r.p r.h r.off≠0) :
  oM (cB its 1 (aM its) (iZ i (ah its i) (bV L j)))=aB (isH its i) (ah its i) r.p r.h r.off/\aX (1:Nat) (iZ i (ah its i) (bV L j))=true/\(iZ i (ah its i) (bV L j)).length<=200000:=by
 have hi8:=hf.len
 have hc:=FL hF j r hr
 obtain ⟨hA,hb⟩:=AtS.aM hf hi
 have hd:=drive hf hc hn _ hA
 have hok:=DL i (by omega) (ah its i) (bV L j) 0
 refine ⟨?_,?_,?_⟩
 ·unfold iZ
  rw[List.cons_append,List.cons_append,List.nil_append,cB,show (bt 48-48).toNat=0 from rfl,oL (by omega),show ((48+i:Nat):Int)=48+(i:Int) by omega,if_neg (by rw[hb];decide)]
  refine Eq.trans ?_ hd
  unfold oM
  have:cB its 1 (command its (Mc.aM its) 1 0 (48+(i:Int))).2 (dZ i (ah its i) 0 (bV L j))≠[]:=by
   cases bV L j<;>simp[dZ,cB]
  cases hq:cB its 1 (command its (Mc.aM its) 1 0 (48+(i:Int))).2 (dZ i (ah its i) 0 (bV L j)) with
  | nil=>exact absurd hq this
  | cons y T=>simp[List.getLast?_cons_cons]
 ·unfold iZ
  have hdg:gJ (bt (b8 (48+i)))=true:=by rw[oL (by omega)];simp[gJ];omega
  rw[List.cons_append,List.cons_append,List.nil_append,aX,hdg,hok.1];decide
 ·have hw:(bV L j).length<=j:=by unfold bV;rw[List.length_reverse];exact xQ L j j
  have hjl:=(List.getElem?_eq_some_iff.1 hr).1
  have hl:=hF.len (hf.gb hi)
  have hsh:=hf.short i hi
  have h3:=Nat.mul_le_mul_right 128 (show (ah its i).length+1<=301 by omega)
  unfold iZ
  rw[List.length_append]
  have:=hok.2
  simp only[List.length_cons,List.length_nil]
  omega
end Mc
end
end Go.Proofs.YtecmfdkhcffpmaaGreat
