/- PureP5, PureP0, PureP1, PureP3. -/
import Derived.Test.YtecmfdkhcffpmaaGreatB22
import Derived.Test.YtecmfdkhcffpmaaGreatB15
namespace Go.Proofs.YtecmfdkhcffpmaaGreat
open Go.RowKit
set_option linter.unusedVariables false
set_option linter.unusedSimpArgs false
set_option linter.unusedSectionVars false
set_option maxHeartbeats 8000000
set_option maxRecDepth 100000
section
namespace Mc
open Wd
def Sits (its:List It)(f:Fr):Prop:=f.there=true->Pl (ah its f.item) f.pos
structure Ats (its:List It)(n:Nat)(S:Ma):Prop where
 t:∀c,c<n->Sits its (S.cp c).t
 h:∀c,c<n->Sits its (S.cp c).h
 pl:∀i,i<its.length->Pl (ah its i) (S.pl i)
theorem Sits.no (its:List It):Sits its aH:=fun h=>by simp[aH] at h
theorem Ats.av {its:List It}{n:Nat}{S:Ma}(h:Ats its n S)(c:Nat)(x:Cp)(ht:Sits its x.t)(hh:Sits its x.h):Ats its n (av S c x):=by
 refine ⟨fun d hd=>?_,fun d hd=>?_,h.pl⟩<;>unfold Mc.av<;>by_cases e:d=c<;>simp only[e,if_true,if_false]
 ·exact ht
 ·exact h.t d hd
 ·exact hh
 ·exact h.h d hd
theorem Ats.aQ {its:List It}{n:Nat}{S:Ma}(h:Ats its n S)(i:Nat)(b:Bool):Ats its n (aQ S i b):=⟨h.t,h.h,h.pl⟩
theorem Ats.bA {its:List It}{n:Nat}{S:Ma}(h:Ats its n S)(i p:Nat)(hp:i<its.length->Pl (ah its i) p):Ats its n (bA S i p):=by
 refine ⟨h.t,h.h,fun j hj=>?_⟩
 unfold Mc.bA
 by_cases e:j=i
 ·subst e;simp only[if_true];exact hp hj
 ·simp only[e,if_false];exact h.pl j hj
theorem Ats.aM (its:List It)(n:Nat):Ats its n (aM its):=⟨fun _ _=>Sits.no its,fun _ _=>Sits.no its,fun _ _=>Pl.zero _⟩
theorem Ats.works {its:List It}{n:Nat}{S:Ma}(h:Ats its n S)(c:Nat)(hc:c<n):Sits its (works S c):=by
 unfold Mc.works
 split
 ·exact h.h c hc
 ·exact h.t c hc
theorem Ats.put {its:List It}{n:Nat}{S:Ma}(h:Ats its n S)(c:Nat)(hc:c<n)(f:Fr)(hf:Sits its f):Ats its n (put S c f):=by
 unfold Mc.put
 refine h.av c _ ?_ ?_<;>unfold ji<;>split
 ·exact h.t c hc
 ·exact hf
 ·exact hf
 ·exact h.h c hc
theorem Ats.leaves {its:List It}{n:Nat}{S:Ma}(h:Ats its n S)(c:Nat)(hc:c<n)(p:Nat)(hp:Pl (ah its (S.cp c).t.item) p):Ats its n (leaves S c p):=by
 unfold Mc.leaves
 exact ((h.aQ _ _).bA _ p (fun _=>hp)).av c _ (Sits.no its) (h.h c hc)
theorem Ob {b:List UInt8}{p:Nat}(second:Bool)(h:atB b p=43):behind b p second=p+2:=by simp[behind,h]
theorem Du {b:List UInt8}{p:Nat}(second:Bool)(h:atB b p=122):behind b p second=p+1:=by simp[behind,h]
theorem Mk {its:List It}(hf:bH its){n:Nat}{S:Ma}(c:Nat)(f:Fr)(l:Nat)(hfr:f.there=true->f.item<its.length)(hs:Sits its f)(h43:atB (ah its f.item) f.pos=43):Sits its (takes its S n c f l).2:=by
 unfold takes
 split
 ·split
  ·exact hs
  ·split
   ·exact hs
   ·exact hs
 ·intro ht
  have ht:f.there=true:=ht
  have:=uZ (hf.bd _ (hfr ht)) f.pos (hs ht) (kG (by rw[h43];decide)) false
  rw[Ob _ h43] at this
  exact this
theorem Ml {its:List It}(hf:bH its){f:Fr}{hd off second:Bool}(hfr:f.there=true->f.item<its.length)(hs:Sits its f)(hp:f.pos<(ah its f.item).length):Sits its (alone (ah its f.item) f hd off second).2.1:=by
 have hb:f.there=true->Pl (ah its f.item) (behind (ah its f.item) f.pos second):=fun ht=>uZ (hf.bd _ (hfr ht)) f.pos (hs ht) hp second
 unfold alone
 split
 ·split
  ·exact hb
  ·exact hs
 ·split
  ·split
   ·exact hs
   ·exact hb
  ·exact hb
theorem Ats.step {its:List It}(hf:bH its){n:Nat}{S:Ma}(h:Ats its n S)(hi:Inv its n S)(c:Nat)(hc:c<n)(second:Bool):Ats its n (step its S n c second).2:=by
 have hs:=h.works c hc
 have hfr:=iB hi c hc
 unfold Mc.step
 simp only
 split
 ·exact h
 rename_i hth
 have hth:(Mc.works S c).there=true:=by simpa using hth
 split
 ·split
  ·exact h
  ·exact h.put c hc _ (Sits.no its)
 rename_i fw
 have hp:=kG fw
 split
 ·rename_i h43
  exact h.put c hc _ (Mk hf c _ _ hfr.item hs h43)
 split
 ·rename_i h122
  split
  ·exact h
  ·rename_i hb
   simp only[not_or] at hb
   have e:Mc.works S c=(S.cp c).t:=by unfold Mc.works;rw[if_neg hb.1]
   have:=uZ (hf.bd _ (hfr.item hth)) _ (hs hth) hp false
   rw[Du _ h122] at this
   rw[e] at this ⊢
   exact h.leaves c hc _ this
 split
 ·exact h
 ·unfold Mc.lone jR
  simp only
  have hput:=h.put c hc _ (Ml hf (hd:=(S.cp c).h.there) (off:=(S.cp c).off) (second:=second) hfr.item hs hp)
  exact hput.av c _ (hput.t c hc) (hput.h c hc)
theorem Ats.command {its:List It}(hf:bH its){n:Nat}{S:Ma}(h:Ats its n S)(hi:Inv its n S)(c:Nat)(hc:c<n)(what:Int):Ats its n (command its S n c what).2:=by
 unfold Mc.command
 split
 ·exact h.step hf hi c hc _
 split
 ·unfold comes
  split
  ·exact h
  rename_i h1
  simp only[not_or] at h1
  split
  ·split
   ·exact h
   ·exact h.av c _ (h.t c hc) (fun _=>Pl.zero _)
  ·split
   ·exact h
   ·exact (h.aQ _ false).av c _ (fun _=>h.pl _ (show (what-48).toNat<its.length by omega)) (h.h c hc)
 split
 ·exact h
 ·rename_i hb
  simp only[not_or] at hb
  exact h.leaves c hc _ (h.t c hc (by simpa using hb.1))
end Mc
end
section
open Mc
def hasB (h:Nat)(l:Int):Bool:=decide (0<=l)&&decide (l<6)&&holds h l.toNat
def aW (b:List UInt8)(p:Nat):Int:=if atB b p=43\/atB b p=45\/atB b p=114\/atB b p=119 then num b p else -1
def aB (hd:Bool)(b:List UInt8)(p h:Nat)(off:Bool):Int :=
 if atB b p=43 then (if hasB h (aW b p)=true then 68 else 0)
 else if atB b p=45 then (if hasB h (aW b p)=true then 0 else 85)
 else if atB b p=122 then (if hd=true\/off=true\/(h==0)=false then 83 else 0)
 else if atB b p=60\/atB b p=62 then (if hd=true then 73 else 0)
 else if atB b p=101 then (if (h==0)=false\/(off=true/\hd=false) then 69 else 0)
 else 0
theorem vR {b:List UInt8}(hok:bG b)(p:Nat):-1<=aW b p/\aW b p<=5:=by
 unfold aW
 split
 ·rename_i hc
  have hp:p<b.length:=kG (by rcases hc with e|e|e|e<;>rw[e]<;>decide)
  simp only[atB,hp,if_true] at hc
  have hk:=hok p hp
  rcases hc with e|e|e|e
  ·have:=hk.1 (Or.inl e);rw[num,if_pos this.1];split<;>omega
  ·have:=hk.1 (Or.inr e);rw[num,if_pos this.1];split<;>omega
  ·have:=hk.2 (Or.inl e);rw[num,if_pos this.1];split<;>omega
  ·have:=hk.2 (Or.inr e);rw[num,if_pos this.1];split<;>omega
 ·omega
end
section
namespace Mc
open Wd
abbrev Ld:=List Nat×(Nat->Nat)
def oI (i:Nat)(c:Int)(z:Ld):Ld:=match z.1 with
 | []=>z
 | q::r=>if c=124\/c=41\/c=93 then (r,fun x=>if x=i then q else if x=q then i+1 else z.2 x) else z
def oC (i:Nat)(c:Int)(z:Ld):Ld:=if c=40\/c=91\/c=124 then (i::z.1,z.2) else z
def dD (i:Nat)(c:Int)(z:Ld):Ld:=oC i c (oI i c z)
def gK:List UInt8->Nat->Ld->Ld
 | [],_,z=>z
 | c::r,i,z=>gK r (i+1) (dD i (bt c) z)
def leads (b:List UInt8):Nat->Nat:=(gK b 0 ([],fun _=>0)).2
theorem u6 (a b:List UInt8)(i:Nat)(z:Ld):gK (a++b) i z=gK b (i+a.length) (gK a i z):=by
 induction a generalizing i z with
 | nil=>rfl
 | cons c r ih =>
  simp only[List.cons_append,gK,List.length_cons]
  rw[ih];congr 1;omega
theorem BX {c:Int}(i:Nat)(z:Ld)(h:c≠40/\c≠91/\c≠124/\c≠41/\c≠93):dD i c z=z:=by
 unfold dD oC
 rw[if_neg (by omega)]
 unfold oI
 split
 ·rfl
 ·rw[if_neg (by omega)]
structure fZ (b:List UInt8)(o:Nat)(L:Nat->Nat)(p:Nat):Prop where
 fo:at_ b p=40->∃j k,Alt b p j k/\L (o+p)=o+j+1
 fm:at_ b p=124->∃i k,Alt b i p k/\L (o+p)=o+k+1
 fs:at_ b p=91->∃k,Star b p k/\L (o+p)=o+k+1
 fe:at_ b p=93->∃i,Star b i p/\L (o+p)=o+i
theorem fZ.mid {b:List UInt8}{o:Nat}{L:Nat->Nat}{p:Nat}(a q:List UInt8)(hp:p<b.length)(h:fZ b (o+a.length) L p):fZ (a++(b++q)) o L (a.length+p):=by
 have e:at_ (a++(b++q)) (a.length+p)=at_ b p:=by rw[dS,ni hp]
 constructor<;>rw[e]<;>intro hc
 ·obtain ⟨j,k,hh,hl⟩:=h.fo hc;exact ⟨_,_,hh.mid a q,by rw[<-Nat.add_assoc,hl];omega⟩
 ·obtain ⟨j,k,hh,hl⟩:=h.fm hc;exact ⟨_,_,hh.mid a q,by rw[<-Nat.add_assoc,hl];omega⟩
 ·obtain ⟨k,hh,hl⟩:=h.fs hc;exact ⟨_,hh.mid a q,by rw[<-Nat.add_assoc,hl];omega⟩
 ·obtain ⟨k,hh,hl⟩:=h.fe hc;exact ⟨_,hh.mid a q,by rw[<-Nat.add_assoc,hl];omega⟩
theorem fZ.none {b:List UInt8}{o:Nat}{L:Nat->Nat}{p:Nat}(h:at_ b p≠40/\at_ b p≠124/\at_ b p≠91/\at_ b p≠93):fZ b o L p :=
 ⟨fun e=>absurd e h.1,fun e=>absurd e h.2.1,fun e=>absurd e h.2.2.1,fun e=>absurd e h.2.2.2⟩
theorem fZ.only {b:List UInt8}{o:Nat}{L:Nat->Nat}{p:Nat}{v:Int}(hv:at_ b p=v)(h40:v=40->∃j k,Alt b p j k/\L (o+p)=o+j+1)(Ab:v=124->∃i k,Alt b i p k/\L (o+p)=o+k+1)(h91:v=91->∃k,Star b p k/\L (o+p)=o+k+1)(h93:v=93->∃i,Star b i p/\L (o+p)=o+i):fZ b o L p:=by
 subst hv;exact ⟨h40,Ab,h91,h93⟩
theorem fZ.same {b:List UInt8}{o:Nat}{L L':Nat->Nat}{p:Nat}(h:fZ b o L p)(e:L' (o+p)=L (o+p)):fZ b o L' p:=by
 constructor<;>rw[e]
 ·exact h.fo
 ·exact h.fm
 ·exact h.fs
 ·exact h.fe
def Goes (b:List UInt8):Prop:=∀(o:Nat) (s:List Nat) (L:Nat->Nat),(∀q∈s,q<o)->∃L',gK b o (s,L)=(s,L')/\(∀q,q<o\/o+b.length<=q->L' q=L q)/\∀p,p<b.length->fZ b o L' p
theorem yZ {t r:List UInt8}(ht:∀c∈t,bt c≠40/\bt c≠91/\bt c≠124/\bt c≠41/\bt c≠93)(h:Goes r):Goes (t++r):=by
 intro o s L hs
 have e:gK t o (s,L)=(s,L):=by
  clear h hs
  induction t generalizing o with
  | nil=>rfl
  | cons c u ih =>
   rw[gK,BX _ _ (ht c (by simp))]
   exact ih (fun x hx=>ht x (by simp[hx])) _
 obtain ⟨L',e1,e2,e3⟩:=h (o+t.length) s L (fun q hq=>by have:=hs q hq;omega)
 refine ⟨L',by rw[u6,e,e1],fun q hq=>e2 q (by simp at hq;omega),fun p hp=>?_⟩
 by_cases c0:p<t.length
 ·apply fZ.none
  rw[ni c0]
  obtain ⟨c,hc,ec⟩:=at_mem c0
  rw[ec]
  have:=ht c hc;omega
 ·have:=(e3 (p-t.length) (by simp at hp;omega)).mid t [] (by simp at hp;omega)
  have e:t.length+(p-t.length)=p:=by omega
  rw[e] at this;simpa using this
theorem RF {b:List UInt8}(h:Bd b):Goes b:=by
 induction h with
 | nil=>intro o s L _;exact ⟨L,rfl,fun _ _=>rfl,fun p hp=>by simp at hp⟩
 | lock c d r h1 h2 _ ih =>
  refine yZ (t:=[c,d]) (fun x hx=>?_) ih
  simp only[List.mem_cons,List.not_mem_nil,or_false] at hx
  simp[lk] at h2
  rcases hx with rfl|rfl<;>omega
 | cell c d r h1 h2 _ ih =>
  refine yZ (t:=[c,d]) (fun x hx=>?_) ih
  simp only[List.mem_cons,List.not_mem_nil,or_false] at hx
  simp[cl] at h2
  rcases hx with rfl|rfl<;>omega
 | one c r h1 _ ih =>
  refine yZ (t:=[c]) (fun x hx=>?_) ih
  simp only[List.mem_cons,List.not_mem_nil,or_false] at hx
  subst hx
  rw[dA] at h1;omega
 | alt x y r hx hy hr ix iy ir =>
  intro o s L hs
  obtain ⟨L1,a1,a2,a3⟩:=ix (o+1) (o::s) L (fun q hq=>by simp only[List.mem_cons] at hq;rcases hq with rfl|hq;omega;have:=hs q hq;omega)
  obtain ⟨L2,b1,b2,b3⟩:=iy (o+1+x.length+1) ((o+1+x.length)::s) (fun z=>if z=o+1+x.length then o else if z=o then o+1+x.length+1 else L1 z) (fun q hq=>by simp only[List.mem_cons] at hq;rcases hq with rfl|hq;omega;have:=hs q hq;omega)
  obtain ⟨L3,c1,c2,c3⟩:=ir (o+1+x.length+1+y.length+1) s (fun z=>if z=o+1+x.length+1+y.length then o+1+x.length else if z=o+1+x.length then o+1+x.length+1+y.length+1 else L2 z) (fun q hq=>by have:=hs q hq;omega)
  have hA:Alt (40::(x++124::(y++41::r))) 0 (1+x.length) (1+x.length+1+y.length):=⟨[],x,y,r,rfl,rfl,by omega,rfl,hx,hy⟩
  have k1:dD o (bt 40) (s,L)=(o::s,L):=by
   unfold dD oC oI
   cases s<;>rfl
  have k2:dD (o+1+x.length) (bt 124) (o::s,L1)=((o+1+x.length)::s,fun z=>if z=o+1+x.length then o else if z=o then o+1+x.length+1 else L1 z):=rfl
  have k3:dD (o+1+x.length+1+y.length) (bt 41) ((o+1+x.length)::s,L2)=(s,fun z=>if z=o+1+x.length+1+y.length then o+1+x.length else if z=o+1+x.length then o+1+x.length+1+y.length+1 else L2 z):=rfl
  have v0:L3 o=o+(1+x.length)+1:=by
   rw[c2 o (by omega),if_neg (by omega),if_neg (by omega),b2 o (by omega),if_neg (by omega),if_pos rfl];omega
  have v1:L3 (o+1+x.length)=o+(1+x.length+1+y.length)+1:=by
   rw[c2 _ (by omega),if_neg (by omega),if_pos rfl];omega
  refine ⟨L3,?_,fun q hq=>?_,fun p hp=>?_⟩
  ·rw[gK,k1,u6,a1,gK,k2,u6,b1,gK,k3,c1]
  ·simp only[List.length_cons,List.length_append] at hq
   rw[c2 q (by omega),if_neg (by omega),if_neg (by omega),b2 q (by omega),if_neg (by omega),if_neg (by omega),a2 q (by omega)]
  ·by_cases c0:p=0
   ·subst c0
    exact fZ.only (v:=40) rfl (fun _=>⟨_,_,hA,v0⟩) (by intro e;cases e) (by intro e;cases e) (by intro e;cases e)
   by_cases c1':p<1+x.length
   ·have h1:=(a3 (p-1) (by omega)).same (L':=L3) (by
     rw[c2 _ (by omega),if_neg (by omega),if_neg (by omega),b2 _ (by omega),if_neg (by omega),if_neg (by omega)])
    have:=h1.mid [40] (124::(y++41::r)) (by omega)
    have e:[(40:UInt8)].length+(p-1)=p:=by simp;omega
    rw[e] at this;exact this
   by_cases c2':p=1+x.length
   ·have hv:at_ (40::(x++124::(y++41::r))) p=124:=by
     have:at_ ((40::x)++(124::(y++41::r))) ((40::x).length+0)=at_ (124::(y++41::r)) 0:=dS _ _ _
     have this:=this.trans (at_cons_zero _ _)
     simp only[wM] at this
     rw[c2'];simpa [Nat.add_comm] using this
    refine fZ.only hv (by intro e;cases e) (fun _=>⟨0,_,by rw[c2'];exact hA,by rw[c2',<-Nat.add_assoc];exact v1⟩) (by intro e;cases e) (by intro e;cases e)
   by_cases c3':p<1+x.length+1+y.length
   ·have h1:=(b3 (p-(x.length+2)) (by omega)).same (L':=L3) (by
     rw[c2 _ (by omega),if_neg (by omega),if_neg (by omega)])
    have h2:fZ y (o+(40::(x++[124]):List UInt8).length) L3 (p-(x.length+2)):=by
     have e:o+(40::(x++[124]):List UInt8).length=o+1+x.length+1:=by simp;omega
     rw[e];exact h1
    have:=h2.mid (40::(x++[124])) (41::r) (by omega)
    have e:(40::(x++[124]):List UInt8).length+(p-(x.length+2))=p:=by simp;omega
    rw[e] at this;simpa using this
   by_cases c4':p=1+x.length+1+y.length
   ·have hv:at_ (40::(x++124::(y++41::r))) p=41:=by
     have:at_ ((40::(x++124::y))++(41::r)) ((40::(x++124::y)).length+0)=at_ (41::r) 0:=dS _ _ _
     have this:=this.trans (at_cons_zero _ _)
     simp only[wQ] at this
     have e:(40::(x++124::y):List UInt8).length+0=p:=by simp;omega
     rw[e] at this;simpa using this
    exact fZ.none (by rw[hv];decide)
   ·have hl:p<(40::(x++124::(y++41::r))).length:=hp
    simp at hl
    have h2:fZ r (o+(40::(x++124::(y++[41])):List UInt8).length) L3 (p-(x.length+y.length+3)):=by
     have e:o+(40::(x++124::(y++[41])):List UInt8).length=o+1+x.length+1+y.length+1:=by simp;omega
     rw[e];exact c3 _ (by omega)
    have:=h2.mid (40::(x++124::(y++[41]))) [] (by omega)
    have e:(40::(x++124::(y++[41])):List UInt8).length+(p-(x.length+y.length+3))=p:=by simp;omega
    rw[e] at this;simpa using this
 | star x r hx hr ix ir =>
  intro o s L hs
  obtain ⟨L1,a1,a2,a3⟩:=ix (o+1) (o::s) L (fun q hq=>by simp only[List.mem_cons] at hq;rcases hq with rfl|hq;omega;have:=hs q hq;omega)
  obtain ⟨L3,c1,c2,c3⟩:=ir (o+1+x.length+1) s (fun z=>if z=o+1+x.length then o else if z=o then o+1+x.length+1 else L1 z) (fun q hq=>by have:=hs q hq;omega)
  have hS:Star (91::(x++93::r)) 0 (1+x.length):=⟨[],x,r,rfl,rfl,by omega,hx⟩
  have k1:dD o (bt 91) (s,L)=(o::s,L):=by
   unfold dD oC oI
   cases s<;>rfl
  have k2:dD (o+1+x.length) (bt 93) (o::s,L1)=(s,fun z=>if z=o+1+x.length then o else if z=o then o+1+x.length+1 else L1 z):=rfl
  have v0:L3 o=o+(1+x.length)+1:=by
   rw[c2 o (by omega),if_neg (by omega),if_pos rfl];omega
  have v1:L3 (o+1+x.length)=o:=by
   rw[c2 _ (by omega),if_pos rfl]
  refine ⟨L3,?_,fun q hq=>?_,fun p hp=>?_⟩
  ·rw[gK,k1,u6,a1,gK,k2,c1]
  ·simp only[List.length_cons,List.length_append] at hq
   rw[c2 q (by omega),if_neg (by omega),if_neg (by omega),a2 q (by omega)]
  ·by_cases c0:p=0
   ·subst c0
    exact fZ.only (v:=91) rfl (by intro e;cases e) (by intro e;cases e) (fun _=>⟨_,hS,v0⟩) (by intro e;cases e)
   by_cases c1':p<1+x.length
   ·have h1:=(a3 (p-1) (by omega)).same (L':=L3) (by
     rw[c2 _ (by omega),if_neg (by omega),if_neg (by omega)])
    have:=h1.mid [91] (93::r) (by omega)
    have e:[(91:UInt8)].length+(p-1)=p:=by simp;omega
    rw[e] at this;exact this
   by_cases c2':p=1+x.length
   ·have hv:at_ (91::(x++93::r)) p=93:=by
     have:at_ ((91::x)++(93::r)) ((91::x).length+0)=at_ (93::r) 0:=dS _ _ _
     have this:=this.trans (at_cons_zero _ _)
     simp only[wR] at this
     rw[c2'];simpa [Nat.add_comm] using this
    refine fZ.only hv (by intro e;cases e) (by intro e;cases e) (by intro e;cases e) (fun _=>⟨0,by rw[c2'];exact hS,by rw[c2',<-Nat.add_assoc,v1];rfl⟩)
   ·have hl:p<(91::(x++93::r)).length:=hp
    simp at hl
    have h2:fZ r (o+(91::(x++[93]):List UInt8).length) L3 (p-(x.length+2)):=by
     have e:o+(91::(x++[93]):List UInt8).length=o+1+x.length+1:=by simp;omega
     rw[e];exact c3 _ (by omega)
    have:=h2.mid (91::(x++[93])) [] (by omega)
    have e:(91::(x++[93]):List UInt8).length+(p-(x.length+2))=p:=by simp;omega
    rw[e] at this;simpa using this
theorem vz {b:List UInt8}(h:Bd b)(p:Nat)(hp:p<b.length):fZ b 0 (leads b) p:=by
 obtain ⟨L',e1,_,e3⟩:=RF h 0 [] (fun _=>0) (by simp)
 have e:leads b=L':=by unfold leads;rw[e1]
 rw[e];exact e3 p hp
theorem Qe {b:List UInt8}(h:Bd b)(p:Nat)(hp:p<b.length)(hc:at_ b p=40):leads b p=ahead b p 124+1:=by
 obtain ⟨j,k,hA,hl⟩:=(vz h p hp).fo hc
 simp only[Nat.zero_add] at hl
 rw[hl,hA.bar]
theorem Oc {b:List UInt8}(h:Bd b)(p:Nat)(hp:p<b.length)(hc:at_ b p=124):leads b p=ahead b p 41+1:=by
 obtain ⟨j,k,hA,hl⟩:=(vz h p hp).fm hc
 simp only[Nat.zero_add] at hl
 rw[hl,hA.close]
theorem Qf {b:List UInt8}(h:Bd b)(p:Nat)(hp:p<b.length)(hc:at_ b p=91):leads b p=ahead b p 93+1:=by
 obtain ⟨k,hA,hl⟩:=(vz h p hp).fs hc
 simp only[Nat.zero_add] at hl
 rw[hl,hA.close]
theorem Qg {b:List UInt8}(h:Bd b)(p:Nat)(hp:p<b.length)(hc:at_ b p=93):leads b p=back b p:=by
 obtain ⟨i,hA,hl⟩:=(vz h p hp).fe hc
 simp only[Nat.zero_add] at hl
 rw[hl,hA.back]
end Mc
end
section
namespace Mc
open Wd
def aG (b:List UInt8)(p h:Nat)(off comma:Bool):Nat×Nat×Bool :=
 if atB b p=43 then (p+2,h+2 ^ (num b p).toNat,off)
 else if atB b p=45 then (p+2,h-2 ^ (num b p).toNat,off)
 else if atB b p=114\/atB b p=119 then (p+2,h,off)
 else if atB b p=60 then (p+1,h,true)
 else if atB b p=62 then (p+1,h,false)
 else if atB b p=40\/atB b p=91 then (if comma=true then leads b p else p+1,h,off)
 else if atB b p=124\/atB b p=93 then (leads b p,h,off)
 else if atB b p=122\/atB b p=41 then (p+1,h,off)
 else (p,h,off)
def aS (hd:Bool)(b:List UInt8)(p h:Nat)(off comma:Bool):(Nat×Nat×Bool)×Int :=
 if aB hd b p h off=0 then (aG b p h off comma,atB b p) else ((p,h,off),aB hd b p h off)
def oJ (its:List It)(S:Ma)(c l:Nat):Int :=
 match holder S 3 l with
 | none=>0
 | some d=>if d=c then 68 else if leadsTo its S c 3 (some d)=true then 87 else 58
def bY (its:List It)(S:Ma)(c:Nat)(f:Fr):Int :=
 if atB (ah its f.item) f.pos=43 then oJ its S c (num (ah its f.item) f.pos).toNat
 else if atB (ah its f.item) f.pos=114\/atB (ah its f.item) f.pos=119 then (if clash its S 3 c f=true then 82 else 0)
 else 0
def aJ (S:Ma)(c:Nat):Bool:=if (S.cp c).h.there=true then true else (S.cp c).off
def fB (S:Ma)(c:Nat)(f:Fr)(o:Bool):Ma:=av S c (if (S.cp c).h.there=true then {(S.cp c) with h:=f} else {(S.cp c) with t:=f,off:=o})
def stepM (its:List It)(S:Ma)(c:Nat)(comma:Bool):Int×Ma :=
 let f:=works S c
 if f.there=false then (95,S)
 else if bY its S c f≠0 then (bY its S c f,S)
 else
  let r:=aS (isH its f.item) (ah its f.item) f.pos f.held (aJ S c) comma
  if r.2=122 then (122,fB (bA (aQ S f.item true) f.item r.1.1) c aH false)
  else if r.2=101 then (101,fB S c aH false)
  else (r.2,fB S c {f with pos:=r.1.1,held:=r.1.2.1} r.1.2.2)
theorem Dv (S:Ma)(c:Nat):av S c (S.cp c)=S:=by
 unfold av
 have:(fun d=>if d=c then S.cp c else S.cp d)=S.cp:=by
  funext d
  by_cases e:d=c
  ·simp[e]
  ·simp[e]
 rw[this]
theorem Cz (S:Ma)(c:Nat)(x y:Cp):av (av S c x) c y=av S c y:=by
 unfold av
 congr 1
 funext d
 by_cases e:d=c
 ·simp[e]
 ·simp[e]
theorem EM (S:Ma)(c:Nat)(g:Fr):fB S c g (aJ S c)=put S c g:=by
 unfold fB put ji aJ
 cases e:(S.cp c).h.there
 ·simp only[Bool.false_eq_true,if_false]
 ·simp only[if_true]
theorem qd (S:Ma)(c:Nat):put S c (works S c)=S:=by
 unfold put ji works
 cases e:(S.cp c).h.there
 ·simp only[Bool.false_eq_true,if_false];exact Dv S c
 ·simp only[if_true];exact Dv S c
theorem Od (S:Ma)(c:Nat):fB S c (works S c) (aJ S c)=S:=by rw[EM,qd]
theorem uR (S:Ma)(c:Nat)(g:Fr):jR (put S c g) c (S.cp c).off=put S c g:=by
 unfold jR
 rw[zG]
 have e:({ji (S.cp c) g with off:=(S.cp c).off}:Cp)=ji (S.cp c) g:=by
  unfold ji
  split
  ·rfl
  ·rfl
 rw[e]
 unfold put
 rw[Cz]
theorem Qh {S:Ma}{c:Nat}(h:(S.cp c).h.there=false)(g:Fr)(o:Bool):fB S c g o=jR (put S c g) c o:=by
 unfold jR
 rw[zG]
 unfold fB put ji
 simp only[h,Bool.false_eq_true,if_false]
 rw[Cz]
theorem uJ {b:List UInt8}(h:Bd b){p:Nat}(hp:p<b.length)(hd:Nat)(off comma:Bool)(hv:atB b p=114\/atB b p=119\/atB b p=40\/atB b p=91\/atB b p=124\/atB b p=93\/atB b p=41\/atB b p=122):aG b p hd off comma=(behind b p comma,hd,off):=by
 have ha:atB b p=at_ b p:=by simp[atB,hp]
 rcases hv with e|e|e|e|e|e|e|e
 ·simp[aG,behind,e]
 ·simp[aG,behind,e]
 ·have:=Qe h p hp (by rw[<-ha];exact e)
  cases comma<;>simp[aG,behind,e,this]
 ·have:=Qf h p hp (by rw[<-ha];exact e)
  cases comma<;>simp[aG,behind,e,this]
 ·have:=Oc h p hp (by rw[<-ha];exact e)
  simp[aG,behind,e,this]
 ·have:=Qg h p hp (by rw[<-ha];exact e)
  simp[aG,behind,e,this]
 ·simp[aG,behind,e]
 ·simp[aG,behind,e]
theorem ku {b:List UInt8}(h:bG b){p:Nat}(hv:atB b p=43\/atB b p=45)(x:Nat):hasB x (aW b p)=holds x (num b p).toNat:=by
 have hp:p<b.length:=kG (by rcases hv with e|e<;>rw[e]<;>decide)
 have e:aW b p=num b p:=by unfold aW;rw[if_pos (by omega)]
 have ha:atB b p=at_ b p:=by simp[atB,hp]
 rw[ha] at hv
 obtain ⟨h1,h2,h3⟩:=(h p hp).1 hv
 have hn:num b p=at_ b (p+1)-97:=by rw[num,if_pos h1,if_pos h2]
 rw[e]
 unfold hasB
 rw[show decide (0<=num b p)=true by simp;omega,show decide (num b p<6)=true by simp;omega]
 rfl
theorem vB {its:List It}(hf:bH its){S:Ma}(hi:Inv its 3 S)(hs:Ats its 3 S)(hr:Rest 3 S)(c:Nat)(hc:c<3)(comma:Bool):stepM its S c comma=step its S 3 c comma:=by
 have hfr:=iB hi c hc
 have hw:=hs.works c hc
 have l1:=Od S c
 have l2:=fun g=>EM S c g
 unfold stepM Mc.step
 simp only
 by_cases mR:(works S c).there=false
 ·rw[if_pos mR,if_pos mR]
 have hth:(works S c).there=true:=by simpa using mR
 rw[if_neg mR,if_neg mR]
 have hit:=hfr.item hth
 have hk:=hfr.kind hth
 have hpl:=hw hth
 have hbd:=hf.bd _ hit
 have hno:=hf.iq _ hit
 have hpo:=qc hbd
 generalize hB:ah its (works S c).item=b at *
 by_cases hge:b.length<=(works S c).pos
 ·have hlt:¬(works S c).pos<b.length:=by omega
  have hv:atB b (works S c).pos=101:=by simp[atB,hlt]
  have hh:bY its S c (works S c)=0:=by simp[bY,hB,hv]
  rw[hh,if_neg (by decide),if_pos hv]
  have hfa:(aB (isH its (works S c).item) b (works S c).pos (works S c).held (aJ S c)=0)↔¬(0<(works S c).held\/((S.cp c).off&&!(S.cp c).h.there)=true):=by
   rw[hk]
   unfold aB aJ
   rw[hv]
   cases (S.cp c).h.there<;>cases (S.cp c).off<;>by_cases e0:(works S c).held=0<;>simp[e0]<;>omega
  by_cases hq:(0<(works S c).held\/((S.cp c).off&&!(S.cp c).h.there)=true)
  ·rw[if_pos hq]
   have h0:¬aB (isH its (works S c).item) b (works S c).pos (works S c).held (aJ S c)=0:=fun e=>hfa.1 e hq
   have h69:aB (isH its (works S c).item) b (works S c).pos (works S c).held (aJ S c)=69:=by
    revert h0
    unfold aB
    rw[hv]
    simp only[reduceCtorEq,if_false,if_true,Int.reduceEq,or_self]
    split
    ·intro _;rfl
    ·intro h;exact absurd rfl h
   unfold aS
   rw[if_neg h0,h69]
   simp only[Int.reduceEq,if_false]
   exact congrArg _ l1
  ·rw[if_neg hq]
   have h0:=hfa.2 hq
   unfold aS
   rw[if_pos h0,hv]
   simp only[Int.reduceEq,if_false,if_true]
   refine congrArg _ ?_
   unfold fB put ji
   cases e:(S.cp c).h.there
   ·have e2:(S.cp c).off=false:=by
     cases e3:(S.cp c).off
     ·rfl
     ·exfalso;apply hq;right;simp[e,e3]
    simp only[Bool.false_eq_true,if_false]
    rw[e2]
   ·simp only[if_true]
 have hlt:(works S c).pos<b.length:=by omega
 have hkd:=hpl.kind hbd hno hlt
 have ha:atB b (works S c).pos=at_ b (works S c).pos:=by simp[atB,hlt]
 rw[<-ha] at hkd
 by_cases hv:(atB b (works S c).pos=40\/atB b (works S c).pos=91\/atB b (works S c).pos=124\/atB b (works S c).pos=93\/atB b (works S c).pos=41\/((atB b (works S c).pos=114\/atB b (works S c).pos=119)/\clash its S 3 c (works S c)=false))
 ·have hn:=uJ hbd hlt (works S c).held (aJ S c) comma (by omega)
  have hfa:aB (isH its (works S c).item) b (works S c).pos (works S c).held (aJ S c)=0:=by
   unfold aB
   rw[if_neg (by omega),if_neg (by omega),if_neg (by omega),if_neg (by omega),if_neg (by omega)]
  have hh:bY its S c (works S c)=0:=by
   unfold bY
   rw[hB]
   rw[if_neg (by omega)]
   rcases hv with h|h|h|h|h | ⟨h,h2⟩
   ·rw[if_neg (by omega)]
   ·rw[if_neg (by omega)]
   ·rw[if_neg (by omega)]
   ·rw[if_neg (by omega)]
   ·rw[if_neg (by omega)]
   ·rw[if_pos h,h2];rfl
  have hal:alone b (works S c) (S.cp c).h.there (S.cp c).off comma=(atB b (works S c).pos,{works S c with pos:=behind b (works S c).pos comma},(S.cp c).off):=by
   unfold alone
   rw[if_neg (by omega),if_neg (by omega)]
  rw[hh,if_neg (by decide)]
  unfold aS
  rw[if_pos hfa,hn]
  simp only
  rw[if_neg (show ¬atB b (works S c).pos=122 by omega),if_neg (show ¬atB b (works S c).pos=101 by omega),if_neg (show ¬atB b (works S c).pos=101 by omega),if_neg (show ¬atB b (works S c).pos=43 by omega),if_neg (show ¬atB b (works S c).pos=122 by omega)]
  rw[if_neg (by rintro ⟨h1,h2⟩;rcases hv with h|h|h|h|h | ⟨h,h3⟩<;>first|omega|(rw[h3] at h2;cases h2))]
  unfold Mc.lone
  simp only[hB,hal]
  rw[uR,l2]
 have hcs:atB b (works S c).pos=43\/atB b (works S c).pos=45\/atB b (works S c).pos=122\/(atB b (works S c).pos=60\/atB b (works S c).pos=62)\/((atB b (works S c).pos=114\/atB b (works S c).pos=119)/\clash its S 3 c (works S c)=true):=by
  cases hcl:clash its S 3 c (works S c)
  ·simp only[hcl,and_true] at hv
   rcases hkd with h|h
   ·unfold iM at h;omega
   ·unfold sole at h;omega
  ·simp only[hcl,and_true]
   rcases hkd with h|h
   ·unfold iM at h;omega
   ·unfold sole at h;omega
 clear hv hkd
 rcases hcs with e|e|e|e | ⟨e,hcl⟩
 ·
  rw[if_neg (show ¬atB b (works S c).pos=101 by omega),if_pos e]
  have hh:bY its S c (works S c)=oJ its S c (num b (works S c).pos).toNat:=by unfold bY;rw[hB,if_pos e]
  rw[hh]
  unfold oJ takes
  cases hl:holder S 3 (num b (works S c).pos).toNat with
  | none =>
   simp only
   rw[if_neg (by decide)]
   have hno:=BV hl hc
   have hfa:aB (isH its (works S c).item) b (works S c).pos (works S c).held (aJ S c)=0:=by
    unfold aB
    rw[if_pos e,ku hpo (Or.inl e),hno];rfl
   unfold aS
   rw[if_pos hfa]
   have hn:aG b (works S c).pos (works S c).held (aJ S c) comma=((works S c).pos+2,(works S c).held+2 ^ (num b (works S c).pos).toNat,aJ S c):=by unfold aG;rw[if_pos e]
   rw[hn,e]
   simp only[Int.reduceEq,if_false]
   rw[l2]
  | some d =>
   simp only
   by_cases e1:d=c
   ·simp only[e1,if_true]
    rw[if_pos (by decide),qd]
   ·simp only[e1,if_false]
    rw[yj hr (Nat.le_refl _) c _ d hc hl e1]
    split
    ·rw[if_pos (by decide),qd]
    ·rw[if_pos (by decide),qd]
 ·
  have hh:bY its S c (works S c)=0:=by unfold bY;rw[hB,if_neg (by omega),if_neg (by omega)]
  have hne:¬((atB b (works S c).pos=114\/atB b (works S c).pos=119)/\clash its S 3 c (works S c)=true):=by rintro ⟨h,_⟩;omega
  have hfa:aB (isH its (works S c).item) b (works S c).pos (works S c).held (aJ S c)=if holds (works S c).held (num b (works S c).pos).toNat=true then 0 else 85:=by
   unfold aB
   rw[if_neg (by omega),if_pos e,ku hpo (Or.inr e)]
  have hn:aG b (works S c).pos (works S c).held (aJ S c) comma=((works S c).pos+2,(works S c).held-2 ^ (num b (works S c).pos).toNat,aJ S c):=by unfold aG;rw[if_neg (by omega),if_pos e]
  have hbe:behind b (works S c).pos comma=(works S c).pos+2:=by unfold behind;rw[if_pos (by omega)]
  have hal:alone b (works S c) (S.cp c).h.there (S.cp c).off comma=if holds (works S c).held (num b (works S c).pos).toNat=true then (45,{works S c with held:=(works S c).held-2 ^ (num b (works S c).pos).toNat,pos:=(works S c).pos+2},(S.cp c).off) else (85,works S c,(S.cp c).off):=by
   unfold alone
   rw[if_pos e,hbe]
  rw[hh,if_neg (show ¬((0:Int)≠0) by decide),if_neg (show ¬atB b (works S c).pos=101 by omega),if_neg (show ¬atB b (works S c).pos=43 by omega),if_neg (show ¬atB b (works S c).pos=122 by omega),if_neg hne]
  unfold Mc.lone
  simp only[hB,hal]
  cases hq:holds (works S c).held (num b (works S c).pos).toNat
  ·have hst:aS (isH its (works S c).item) b (works S c).pos (works S c).held (aJ S c) comma=(((works S c).pos,(works S c).held,aJ S c),85):=by
    unfold aS;rw[hfa,hq];rfl
   rw[hst]
   simp only[Int.reduceEq,if_false,Bool.false_eq_true]
   rw[uR,qd]
   exact congrArg _ l1
  ·have hst:aS (isH its (works S c).item) b (works S c).pos (works S c).held (aJ S c) comma=(((works S c).pos+2,(works S c).held-2 ^ (num b (works S c).pos).toNat,aJ S c),45):=by
    unfold aS;rw[hfa,hq,hn,e];rfl
   rw[hst]
   simp only[Int.reduceEq,if_false,if_true]
   rw[uR,l2]
 ·
  have hh:bY its S c (works S c)=0:=by unfold bY;rw[hB,if_neg (by omega),if_neg (by omega)]
  have hfa:aB (isH its (works S c).item) b (works S c).pos (works S c).held (aJ S c)=if ((S.cp c).h.there=true\/0<(works S c).held\/((S.cp c).off&&!(S.cp c).h.there)=true) then 83 else 0:=by
   rw[hk]
   unfold aB aJ
   rw[if_neg (by omega),if_neg (by omega),if_pos e]
   cases (S.cp c).h.there<;>cases (S.cp c).off<;>by_cases e0:(works S c).held=0<;>simp[e0]<;>omega
  have hn:=uJ hbd hlt (works S c).held (aJ S c) comma (by omega)
  rw[Du _ e] at hn
  rw[hh,if_neg (show ¬((0:Int)≠0) by decide),if_neg (show ¬atB b (works S c).pos=101 by omega),if_neg (show ¬atB b (works S c).pos=43 by omega),if_pos (show atB b (works S c).pos=122 from e)]
  by_cases hq:((S.cp c).h.there=true\/0<(works S c).held\/((S.cp c).off&&!(S.cp c).h.there)=true)
  ·have hst:aS (isH its (works S c).item) b (works S c).pos (works S c).held (aJ S c) comma=(((works S c).pos,(works S c).held,aJ S c),83):=by
    unfold aS;rw[hfa,if_pos hq];rfl
   rw[hst,if_pos hq]
   simp only[Int.reduceEq,if_false]
   exact congrArg _ l1
  ·have hst:aS (isH its (works S c).item) b (works S c).pos (works S c).held (aJ S c) comma=(((works S c).pos+1,(works S c).held,aJ S c),122):=by
    unfold aS;rw[hfa,if_neg hq,hn,e];rfl
   rw[hst,if_neg hq]
   simp only[if_true]
   refine congrArg _ ?_
   simp only[not_or] at hq
   obtain ⟨q1,q2,q3⟩:=hq
   have e1:(S.cp c).h.there=false:=by simpa using q1
   have e2:(S.cp c).off=false:=by
    cases e3:(S.cp c).off
    ·rfl
    ·exfalso;apply q3;simp[e1,e3]
   have ew:works S c=(S.cp c).t:=by unfold works;rw[if_neg q1]
   rw[ew]
   unfold fB leaves
   have e3:((bA (aQ S (S.cp c).t.item true) (S.cp c).t.item ((S.cp c).t.pos+1)).cp c).h.there=false:=e1
   rw[if_neg (by rw[e3];decide)]
   have e4:({(bA (aQ S (S.cp c).t.item true) (S.cp c).t.item ((S.cp c).t.pos+1)).cp c with t:=aH,off:=false}:Cp)={S.cp c with t:=aH}:=by
    show ({S.cp c with t:=aH,off:=false}:Cp)=_
    rw[<-e2]
   rw[e4]
 ·
  have hh:bY its S c (works S c)=0:=by unfold bY;rw[hB,if_neg (by omega),if_neg (by omega)]
  have hne:¬((atB b (works S c).pos=114\/atB b (works S c).pos=119)/\clash its S 3 c (works S c)=true):=by rintro ⟨h,_⟩;omega
  have hfa:aB (isH its (works S c).item) b (works S c).pos (works S c).held (aJ S c)=if (S.cp c).h.there=true then 73 else 0:=by
   rw[hk]
   unfold aB
   rw[if_neg (by omega),if_neg (by omega),if_neg (by omega),if_pos e]
  have hn:aG b (works S c).pos (works S c).held (aJ S c) comma=((works S c).pos+1,(works S c).held,decide (atB b (works S c).pos=60)):=by
   unfold aG
   rcases e with e|e<;>simp[e]
  have hbe:behind b (works S c).pos comma=(works S c).pos+1:=by
   unfold behind
   rw[if_neg (by omega),if_neg (by omega),if_neg (by omega),if_neg (by omega),if_neg (by omega)]
  have hal:alone b (works S c) (S.cp c).h.there (S.cp c).off comma=if (S.cp c).h.there=true then (73,works S c,(S.cp c).off) else (atB b (works S c).pos,{works S c with pos:=(works S c).pos+1},decide (atB b (works S c).pos=60)):=by
   unfold alone
   rw[if_neg (by omega),if_pos e,hbe]
  rw[hh,if_neg (show ¬((0:Int)≠0) by decide),if_neg (show ¬atB b (works S c).pos=101 by omega),if_neg (show ¬atB b (works S c).pos=43 by omega),if_neg (show ¬atB b (works S c).pos=122 by omega),if_neg hne]
  unfold Mc.lone
  simp only[hB,hal]
  cases hH:(S.cp c).h.there
  ·have hst:aS (isH its (works S c).item) b (works S c).pos (works S c).held (aJ S c) comma=(((works S c).pos+1,(works S c).held,decide (atB b (works S c).pos=60)),atB b (works S c).pos):=by
    unfold aS;rw[hfa,hH,hn];rfl
   rw[hst]
   simp only[Bool.false_eq_true,if_false]
   rw[if_neg (show ¬atB b (works S c).pos=122 by omega),if_neg (show ¬atB b (works S c).pos=101 by omega),Qh hH]
  ·have hst:aS (isH its (works S c).item) b (works S c).pos (works S c).held (aJ S c) comma=(((works S c).pos,(works S c).held,aJ S c),73):=by
    unfold aS;rw[hfa,hH];rfl
   rw[hst]
   simp only[Int.reduceEq,if_false,if_true]
   rw[uR,qd]
   exact congrArg _ l1
 ·
  have hh:bY its S c (works S c)=82:=by unfold bY;rw[hB,if_neg (by omega),if_pos e,if_pos hcl]
  rw[hh,if_pos (by decide),if_neg (show ¬atB b (works S c).pos=101 by omega),if_neg (show ¬atB b (works S c).pos=43 by omega),if_neg (show ¬atB b (works S c).pos=122 by omega),if_pos ⟨e,hcl⟩]
end Mc
end
end Go.Proofs.YtecmfdkhcffpmaaGreat
