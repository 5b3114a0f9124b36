/- PureM5, PureP4, PureP2. -/
import Derived.Test.YtecmfdkhcffpmaaGreatB15
namespace Go.Proofs.YtecmfdkhcffpmaaGreat
open Go.RowKit
set_option linter.unusedVariables false
set_option linter.unusedSimpArgs false
set_option linter.unusedSectionVars false
set_option maxHeartbeats 8000000
set_option maxRecDepth 100000
section
namespace Mc
open Wd
def Alt (b:List UInt8)(i j k:Nat):Prop:=∃pre x y r,b=pre++40::(x++124::(y++41::r))/\pre.length=i/\i+1+x.length=j/\j+1+y.length=k/\Bd x/\Bd y
def Star (b:List UInt8)(i k:Nat):Prop:=∃pre x r,b=pre++91::(x++93::r)/\pre.length=i/\i+1+x.length=k/\Bd x
theorem Alt.mid {b:List UInt8}{i j k:Nat}(h:Alt b i j k)(p q:List UInt8):Alt (p++(b++q)) (p.length+i) (p.length+j) (p.length+k):=by
 obtain ⟨pre,x,y,r,e,h1,h2,h3,h4,h5⟩:=h
 exact ⟨p++pre,x,y,r++q,by rw[e];simp,by simp[h1],by omega,by omega,h4,h5⟩
theorem Star.mid {b:List UInt8}{i k:Nat}(h:Star b i k)(p q:List UInt8):Star (p++(b++q)) (p.length+i) (p.length+k):=by
 obtain ⟨pre,x,r,e,h1,h2,h4⟩:=h
 exact ⟨p++pre,x,r++q,by rw[e];simp,by simp[h1],by omega,h4⟩
structure Br (b:List UInt8)(p:Nat):Prop where
 o:at_ b p=40->∃j k,Alt b p j k
 m:at_ b p=124->∃i k,Alt b i p k
 c:at_ b p=41->∃i j,Alt b i j p
 s:at_ b p=91->∃k,Star b p k
 e:at_ b p=93->∃i,Star b i p
theorem Br.mid {b:List UInt8}{p:Nat}(h:Br b p)(a q:List UInt8)(hp:p<b.length):Br (a++(b++q)) (a.length+p):=by
 have e:at_ (a++(b++q)) (a.length+p)=at_ b p:=by rw[dS,ni hp]
 constructor<;>rw[e]<;>intro hc
 ·obtain ⟨j,k,hh⟩:=h.o hc;exact ⟨_,_,hh.mid a q⟩
 ·obtain ⟨j,k,hh⟩:=h.m hc;exact ⟨_,_,hh.mid a q⟩
 ·obtain ⟨j,k,hh⟩:=h.c hc;exact ⟨_,_,hh.mid a q⟩
 ·obtain ⟨k,hh⟩:=h.s hc;exact ⟨_,hh.mid a q⟩
 ·obtain ⟨k,hh⟩:=h.e hc;exact ⟨_,hh.mid a q⟩
theorem Br.none {b:List UInt8}{p:Nat}(h:at_ b p≠40/\at_ b p≠124/\at_ b p≠41/\at_ b p≠91/\at_ b p≠93):Br b p :=
 ⟨fun e=>absurd e h.1,fun e=>absurd e h.2.1,fun e=>absurd e h.2.2.1,fun e=>absurd e h.2.2.2.1,fun e=>absurd e h.2.2.2.2⟩
theorem Br.only {b:List UInt8}{p:Nat}{v:Int}(hv:at_ b p=v)(h40:v=40->∃j k,Alt b p j k)(Ab:v=124->∃i k,Alt b i p k)(h41:v=41->∃i j,Alt b i j p)(h91:v=91->∃k,Star b p k)(h93:v=93->∃i,Star b i p):Br b p:=by
 subst hv;exact ⟨h40,Ab,h41,h91,h93⟩
theorem wM:bt 124=124:=rfl
theorem wQ:bt 41=41:=rfl
theorem wR:bt 93=93:=rfl
theorem FR {b:List UInt8}(h:Bd b):∀p,p<b.length->Br b p:=by
 induction h with
 | nil=>intro p hp;simp at hp
 | lock c d r h1 h2 _ ih =>
  intro p hp
  match p,hp with
  | 0,_=>exact Br.none (by rw[at_cons_zero];omega)
  | 1,_=>exact Br.none (by rw[at_cons_succ,at_cons_zero];simp[lk] at h2;omega)
  | p+2,hp =>
   have:=(ih p (by simpa using hp)).mid [c,d] [] (by simpa using hp)
   simpa [Nat.add_comm] using this
 | cell c d r h1 h2 _ ih =>
  intro p hp
  match p,hp with
  | 0,_=>exact Br.none (by rw[at_cons_zero];omega)
  | 1,_=>exact Br.none (by rw[at_cons_succ,at_cons_zero];simp[cl] at h2;omega)
  | p+2,hp =>
   have:=(ih p (by simpa using hp)).mid [c,d] [] (by simpa using hp)
   simpa [Nat.add_comm] using this
 | one c r h1 _ ih =>
  intro p hp
  match p,hp with
  | 0,_=>exact Br.none (by rw[at_cons_zero];rw[dA] at h1;omega)
  | p+1,hp =>
   have:=(ih p (by simpa using hp)).mid [c] [] (by simpa using hp)
   simpa [Nat.add_comm] using this
 | alt x y r hx hy hr ix iy ir =>
  intro p hp
  have hA:Alt (40::(x++124::(y++41::r))) 0 (1+x.length) (1+x.length+1+y.length):=⟨[],x,y,r,rfl,rfl,by omega,rfl,hx,hy⟩
  by_cases c0:p=0
  ·subst c0
   exact Br.only (v:=40) rfl (fun _=>⟨_,_,hA⟩) (by intro e;cases e) (by intro e;cases e) (by intro e;cases e) (by intro e;cases e)
  by_cases c1:p<1+x.length
  ·have:=(ix (p-1) (by omega)).mid [40] (124::(y++41::r)) (by omega)
   have e:[(40:UInt8)].length+(p-1)=p:=by simp;omega
   rw[e] at this;exact this
  by_cases c2:p=1+x.length
  ·have hv:at_ (40::(x++124::(y++41::r))) p=124:=by
    have:at_ ((40::x)++(124::(y++41::r))) ((40::x).length+0)=at_ (124::(y++41::r)) 0:=dS _ _ _
    have this:=this.trans (at_cons_zero _ _)
    simp only[wM,wQ,wR] at this
    rw[c2];simpa [Nat.add_comm] using this
   refine Br.only hv (by intro e;cases e) (fun _=>⟨0,_,by rw[c2];exact hA⟩) (by intro e;cases e) (by intro e;cases e) (by intro e;cases e)
  by_cases c3:p<1+x.length+1+y.length
  ·have:=(iy (p-(x.length+2)) (by omega)).mid (40::(x++[124])) (41::r) (by omega)
   have e:(40::(x++[124]):List UInt8).length+(p-(x.length+2))=p:=by simp;omega
   rw[e] at this;simpa using this
  by_cases c4:p=1+x.length+1+y.length
  ·have hv:at_ (40::(x++124::(y++41::r))) p=41:=by
    have:at_ ((40::(x++124::y))++(41::r)) ((40::(x++124::y)).length+0)=at_ (41::r) 0:=dS _ _ _
    have this:=this.trans (at_cons_zero _ _)
    simp only[wM,wQ,wR] at this
    have e:(40::(x++124::y):List UInt8).length+0=p:=by simp;omega
    rw[e] at this;simpa using this
   refine Br.only hv (by intro e;cases e) (by intro e;cases e) (fun _=>⟨0,_,by rw[c4];exact hA⟩) (by intro e;cases e) (by intro e;cases e)
  ·have hl:p<(40::(x++124::(y++41::r))).length:=hp
   simp at hl
   have:=(ir (p-(x.length+y.length+3)) (by omega)).mid (40::(x++124::(y++[41]))) [] (by omega)
   have e:(40::(x++124::(y++[41])):List UInt8).length+(p-(x.length+y.length+3))=p:=by simp;omega
   rw[e] at this;simpa using this
 | star x r hx hr ix ir =>
  intro p hp
  have hS:Star (91::(x++93::r)) 0 (1+x.length):=⟨[],x,r,rfl,rfl,by omega,hx⟩
  by_cases c0:p=0
  ·subst c0
   exact Br.only (v:=91) rfl (by intro e;cases e) (by intro e;cases e) (by intro e;cases e) (fun _=>⟨_,hS⟩) (by intro e;cases e)
  by_cases c1:p<1+x.length
  ·have:=(ix (p-1) (by omega)).mid [91] (93::r) (by omega)
   have e:[(91:UInt8)].length+(p-1)=p:=by simp;omega
   rw[e] at this;exact this
  by_cases c2:p=1+x.length
  ·have hv:at_ (91::(x++93::r)) p=93:=by
    have:at_ ((91::x)++(93::r)) ((91::x).length+0)=at_ (93::r) 0:=dS _ _ _
    have this:=this.trans (at_cons_zero _ _)
    simp only[wM,wQ,wR] at this
    rw[c2];simpa [Nat.add_comm] using this
   refine Br.only hv (by intro e;cases e) (by intro e;cases e) (by intro e;cases e) (by intro e;cases e) (fun _=>⟨0,by rw[c2];exact hS⟩)
  ·have hl:p<(91::(x++93::r)).length:=hp
   simp at hl
   have:=(ir (p-(x.length+2)) (by omega)).mid (91::(x++[93])) [] (by omega)
   have e:(91::(x++[93]):List UInt8).length+(p-(x.length+2))=p:=by simp;omega
   rw[e] at this;simpa using this
theorem xG {x:List UInt8}(h:Bd x)(c:Int)(hc:c=124\/c=41\/c=93)(r:List UInt8)(d:Int)(hd:0<=d)(i:Nat):dB c (x++r) d i=dB c r d (i+x.length):=by
 induction h generalizing d i r with
 | nil=>rfl
 | lock a e t h1 h2 _ ih =>
  have n1:¬(d=0/\bt a=c):=by omega
  have n2:¬(d=0/\bt e=c):=by simp[lk] at h2;omega
  have d1:dp (bt a)=0:=by rcases h1 with e|e<;>rw[e]<;>decide
  have d2:dp (bt e)=0:=by simp[lk] at h2;unfold dp;rw[if_neg (by omega),if_neg (by omega)]
  simp only[List.cons_append,dB,n1,n2,if_false,d1,d2,Int.add_zero]
  rw[ih _ _ hd];simp;congr 1;omega
 | cell a e t h1 h2 _ ih =>
  have n1:¬(d=0/\bt a=c):=by omega
  have n2:¬(d=0/\bt e=c):=by simp[cl] at h2;omega
  have d1:dp (bt a)=0:=by rcases h1 with e|e<;>rw[e]<;>decide
  have d2:dp (bt e)=0:=by simp[cl] at h2;unfold dp;rw[if_neg (by omega),if_neg (by omega)]
  simp only[List.cons_append,dB,n1,n2,if_false,d1,d2,Int.add_zero]
  rw[ih _ _ hd];simp;congr 1;omega
 | one a t h1 _ ih =>
  rw[dA] at h1
  have n1:¬(d=0/\bt a=c):=by omega
  have d1:dp (bt a)=0:=by unfold dp;rw[if_neg (by omega),if_neg (by omega)]
  simp only[List.cons_append,dB,n1,if_false,d1,Int.add_zero]
  rw[ih _ _ hd];simp;congr 1;omega
 | alt x y t _ _ _ ix iy it =>
  have n1:¬(d=0/\bt 40=c):=by have:bt 40=40:=rfl;omega
  have n2:¬(d+1=0/\bt 124=c):=by omega
  have n3:¬(d+1=0/\bt 41=c):=by omega
  have d1:dp (bt 40)=1:=by decide
  have d2:dp (bt 124)=0:=by decide
  have d3:dp (bt 41)=-1:=by decide
  have e:40::(x++124::(y++41::t))++r=40::(x++(124::(y++(41::(t++r))))):=by simp
  rw[e,dB,if_neg n1,d1,ix _ _ (by omega),dB,if_neg n2,d2,Int.add_zero,iy _ _ (by omega),dB,if_neg n3,d3,show d+1 + -1=d by omega,it _ _ hd]
  congr 1;simp;omega
 | star x t _ _ ix it =>
  have n1:¬(d=0/\bt 91=c):=by have:bt 91=91:=rfl;omega
  have n3:¬(d+1=0/\bt 93=c):=by omega
  have d1:dp (bt 91)=1:=by decide
  have d3:dp (bt 93)=-1:=by decide
  have e:91::(x++93::t)++r=91::(x++(93::(t++r))):=by simp
  rw[e,dB,if_neg n1,d1,ix _ _ (by omega),dB,if_neg n3,d3,show d+1 + -1=d by omega,it _ _ hd]
  congr 1;simp;omega
theorem Alt.bar {b:List UInt8}{i j k:Nat}(h:Alt b i j k):ahead b i 124=j:=by
 obtain ⟨pre,x,y,r,e,h1,h2,h3,h4,h5⟩:=h
 unfold ahead
 have:b.drop (i+1)=x++124::(y++41::r):=by rw[e,<-h1];simp
 rw[this,xG h4 124 (Or.inl rfl) _ 0 (by omega),dB,if_pos ⟨rfl,rfl⟩];omega
theorem Alt.close {b:List UInt8}{i j k:Nat}(h:Alt b i j k):ahead b j 41=k:=by
 obtain ⟨pre,x,y,r,e,h1,h2,h3,h4,h5⟩:=h
 unfold ahead
 have:b.drop (j+1)=y++41::r:=by
  have e2:b=(pre++40::(x++[124]))++(y++41::r):=by rw[e];simp
  rw[e2,List.drop_left' (by simp;omega)]
 rw[this,xG h5 41 (by simp) _ 0 (by omega),dB,if_pos ⟨rfl,rfl⟩];omega
theorem Star.close {b:List UInt8}{i k:Nat}(h:Star b i k):ahead b i 93=k:=by
 obtain ⟨pre,x,r,e,h1,h2,h4⟩:=h
 unfold ahead
 have:b.drop (i+1)=x++93::r:=by rw[e,<-h1];simp
 rw[this,xG h4 93 (by simp) _ 0 (by omega),dB,if_pos ⟨rfl,rfl⟩];omega
theorem Alt.lt {b:List UInt8}{i j k:Nat}(h:Alt b i j k):i<j/\j<k/\k<b.length:=by
 obtain ⟨pre,x,y,r,e,h1,h2,h3,h4,h5⟩:=h
 have:b.length=pre.length+1+x.length+1+y.length+1+r.length:=by rw[e];simp;omega
 omega
theorem Star.lt {b:List UInt8}{i k:Nat}(h:Star b i k):i<k/\k<b.length:=by
 obtain ⟨pre,x,r,e,h1,h2,h4⟩:=h
 have:b.length=pre.length+1+x.length+1+r.length:=by rw[e];simp;omega
 omega
theorem Mi {x:List UInt8}(h:Bd x)(pre r:List UInt8)(d:Int)(hd:0<=d):dL (pre++(x++r)) (pre.length+x.length) d=dL (pre++(x++r)) pre.length d:=by
 induction h generalizing pre r d with
 | nil=>rfl
 | lock a e t h1 h2 _ ih =>
  have d1:dp (bt a)=0:=by rcases h1 with e|e<;>rw[e]<;>decide
  have d2:dp (bt e)=0:=by simp[lk] at h2;unfold dp;rw[if_neg (by omega),if_neg (by omega)]
  have b1:at_ (pre++(a::e::t++r)) pre.length=bt a:=by have:=dS pre (a::e::t++r) 0;rw[Nat.add_zero] at this;rw[this];exact at_cons_zero _ _
  have b2:at_ (pre++(a::e::t++r)) (pre.length+1)=bt e:=by rw[dS];exact (at_cons_succ _ _ _).trans (at_cons_zero _ _)
  have e1:pre++(a::e::t++r)=(pre++[a,e])++(t++r):=by simp
  have:=ih (pre++[a,e]) r d hd
  rw[<-e1] at this
  have l1:(pre++[a,e]).length+t.length=pre.length+(a::e::t).length:=by simp;omega
  have l2:(pre++[a,e]).length=pre.length+1+1:=by simp
  rw[l1,l2] at this
  rw[this,dL,b2,if_neg (by simp[lk] at h2;omega),d2,Int.sub_zero,dL,b1,if_neg (by omega),d1,Int.sub_zero]
 | cell a e t h1 h2 _ ih =>
  have d1:dp (bt a)=0:=by rcases h1 with e|e<;>rw[e]<;>decide
  have d2:dp (bt e)=0:=by simp[cl] at h2;unfold dp;rw[if_neg (by omega),if_neg (by omega)]
  have b1:at_ (pre++(a::e::t++r)) pre.length=bt a:=by have:=dS pre (a::e::t++r) 0;rw[Nat.add_zero] at this;rw[this];exact at_cons_zero _ _
  have b2:at_ (pre++(a::e::t++r)) (pre.length+1)=bt e:=by rw[dS];exact (at_cons_succ _ _ _).trans (at_cons_zero _ _)
  have e1:pre++(a::e::t++r)=(pre++[a,e])++(t++r):=by simp
  have:=ih (pre++[a,e]) r d hd
  rw[<-e1] at this
  have l1:(pre++[a,e]).length+t.length=pre.length+(a::e::t).length:=by simp;omega
  have l2:(pre++[a,e]).length=pre.length+1+1:=by simp
  rw[l1,l2] at this
  rw[this,dL,b2,if_neg (by simp[cl] at h2;omega),d2,Int.sub_zero,dL,b1,if_neg (by omega),d1,Int.sub_zero]
 | one a t h1 _ ih =>
  rw[dA] at h1
  have d1:dp (bt a)=0:=by unfold dp;rw[if_neg (by omega),if_neg (by omega)]
  have b1:at_ (pre++(a::t++r)) pre.length=bt a:=by have:=dS pre (a::t++r) 0;rw[Nat.add_zero] at this;rw[this];exact at_cons_zero _ _
  have e1:pre++(a::t++r)=(pre++[a])++(t++r):=by simp
  have:=ih (pre++[a]) r d hd
  rw[<-e1] at this
  have l1:(pre++[a]).length+t.length=pre.length+(a::t).length:=by simp;omega
  have l2:(pre++[a]).length=pre.length+1:=by simp
  rw[l1,l2] at this
  rw[this,dL,b1,if_neg (by omega),d1,Int.sub_zero]
 | alt x y t _ _ _ ix iy it =>
  generalize hB:pre++(40::(x++124::(y++41::t))++r)=B
  have e1:B=(pre++40::(x++124::(y++[41])))++(t++r):=by rw[<-hB];simp
  have e2:B=(pre++40::(x++[124]))++(y++(41::(t++r))):=by rw[<-hB];simp
  have e3:B=(pre++[40])++(x++(124::(y++(41::(t++r))))):=by rw[<-hB];simp
  have i1:=it (pre++40::(x++124::(y++[41]))) r d hd
  have i2:=iy (pre++40::(x++[124])) (41::(t++r)) (d+1) (by omega)
  have i3:=ix (pre++[40]) (124::(y++(41::(t++r)))) (d+1) (by omega)
  rw[<-e1] at i1;rw[<-e2] at i2;rw[<-e3] at i3
  have c1:at_ B (pre.length+x.length+2+y.length)=41:=by
   rw[e2,iG _ _ _ y.length (by simp;omega)]
   have:=dS y (41::(t++r)) 0
   rw[Nat.add_zero] at this;rw[this];rfl
  have c2:at_ B (pre.length+x.length+1)=124:=by
   rw[e3,iG _ _ _ x.length (by simp;omega)]
   have:=dS x (124::(y++(41::(t++r)))) 0
   rw[Nat.add_zero] at this;rw[this];rfl
  have c3:at_ B pre.length=40:=by
   rw[<-hB];have:=dS pre (40::(x++124::(y++41::t))++r) 0
   rw[Nat.add_zero] at this;rw[this];rfl
  have l1:pre.length+(40::(x++124::(y++41::t))).length=(pre++40::(x++124::(y++[41]))).length+t.length:=by simp;omega
  have l2:(pre++40::(x++124::(y++[41]))).length=(pre.length+x.length+2+y.length)+1:=by simp;omega
  have l3:pre.length+x.length+2+y.length=(pre++40::(x++[124])).length+y.length:=by simp;omega
  have l4:(pre++40::(x++[124])).length=(pre.length+x.length+1)+1:=by simp;omega
  have l5:pre.length+x.length+1=(pre++[40]).length+x.length:=by simp;omega
  have l6:(pre++[40]).length=pre.length+1:=by simp
  have p1:dp 41=-1:=by decide
  have p2:dp 124=0:=by decide
  have p3:dp 40=1:=by decide
  rw[l1,i1,l2,dL,c1,if_neg (by omega),p1,show d - -1=d+1 by omega,l3,i2,l4,dL,c2,if_neg (by omega),p2,Int.sub_zero,l5,i3,l6,dL,c3,if_neg (by omega),p3,show d+1-1=d by omega]
 | star x t _ _ ix it =>
  generalize hB:pre++(91::(x++93::t)++r)=B
  have e1:B=(pre++91::(x++[93]))++(t++r):=by rw[<-hB];simp
  have e3:B=(pre++[91])++(x++(93::(t++r))):=by rw[<-hB];simp
  have i1:=it (pre++91::(x++[93])) r d hd
  have i3:=ix (pre++[91]) (93::(t++r)) (d+1) (by omega)
  rw[<-e1] at i1;rw[<-e3] at i3
  have c2:at_ B (pre.length+x.length+1)=93:=by
   rw[e3,iG _ _ _ x.length (by simp;omega)]
   have:=dS x (93::(t++r)) 0
   rw[Nat.add_zero] at this;rw[this];rfl
  have c3:at_ B pre.length=91:=by
   rw[<-hB];have:=dS pre (91::(x++93::t)++r) 0
   rw[Nat.add_zero] at this;rw[this];rfl
  have l1:pre.length+(91::(x++93::t)).length=(pre++91::(x++[93])).length+t.length:=by simp;omega
  have l4:(pre++91::(x++[93])).length=(pre.length+x.length+1)+1:=by simp;omega
  have l5:pre.length+x.length+1=(pre++[91]).length+x.length:=by simp;omega
  have l6:(pre++[91]).length=pre.length+1:=by simp
  have p2:dp 93=-1:=by decide
  have p3:dp 91=1:=by decide
  rw[l1,i1,l4,dL,c2,if_neg (by omega),p2,show d - -1=d+1 by omega,l5,i3,l6,dL,c3,if_neg (by omega),p3,show d+1-1=d by omega]
theorem Star.back {b:List UInt8}{i k:Nat}(h:Star b i k):back b k=i:=by
 obtain ⟨pre,x,r,e,h1,h2,h4⟩:=h
 unfold Mc.back
 have e1:b=(pre++[91])++(x++(93::r)):=by rw[e];simp
 have i1:=Mi h4 (pre++[91]) (93::r) 0 (by omega)
 rw[<-e1] at i1
 have c3:at_ b pre.length=91:=by
  rw[e];have:=dS pre (91::(x++93::r)) 0
  rw[Nat.add_zero] at this;rw[this];rfl
 have l1:k=(pre++[91]).length+x.length:=by simp;omega
 have l2:(pre++[91]).length=pre.length+1:=by simp
 rw[l1,i1,l2,dL,c3,if_pos ⟨rfl,rfl⟩,h1]
theorem Oa {b:List UInt8}(h:Bd b)(p:Nat)(hp:p<b.length)(second:Bool):behind b p second<=b.length:=by
 have hb:=FR h p hp
 have hpk:=qc h p hp
 have ha:atB b p=at_ b p:=by simp[atB,hp]
 unfold behind
 rw[ha]
 split
 ·rename_i hc
  have:p+1<b.length:=by
   rcases hc with e|e|e|e
   ·exact (hpk.1 (Or.inl e)).1
   ·exact (hpk.1 (Or.inr e)).1
   ·exact (hpk.2 (Or.inl e)).1
   ·exact (hpk.2 (Or.inr e)).1
  omega
 split
 ·rename_i hc
  obtain ⟨j,k,hA⟩:=hb.o hc.1
  rw[hA.bar];have:=hA.lt;omega
 split
 ·rename_i hc
  obtain ⟨j,k,hA⟩:=hb.m hc
  rw[hA.close];have:=hA.lt;omega
 split
 ·rename_i hc
  obtain ⟨k,hA⟩:=hb.s hc.1
  rw[hA.close];have:=hA.lt;omega
 split
 ·rename_i hc
  obtain ⟨i,hA⟩:=hb.e hc
  rw[hA.back];have:=hA.lt;omega
 ·omega
end Mc
end
section
namespace Mc
open Wd
def iM (v:Int):Prop:=v=43\/v=45\/v=114\/v=119
def sole (v:Int):Prop:=v=60\/v=62\/v=122\/v=40\/v=41\/v=124\/v=91\/v=93
def Kd (b:List UInt8):Prop:=∀p,p<b.length->iM (at_ b p)\/sole (at_ b p)\/up (at_ b p)=true\/(0<p/\iM (at_ b (p-1)))
theorem Kd.app {a b:List UInt8}(ha:Kd a)(hb:Kd b):Kd (a++b):=by
 intro p hp
 by_cases h:p<a.length
 ·rw[ni h,ni (show p-1<a.length by omega)]
  exact ha p h
 ·obtain ⟨q,rfl⟩:∃q,p=a.length+q:=⟨p-a.length,by omega⟩
  have hq:q<b.length:=by simp at hp;omega
  rw[dS]
  rcases hb q hq with h1|h1|h1 | ⟨h0,h1⟩
  ·exact Or.inl h1
  ·exact Or.inr (Or.inl h1)
  ·exact Or.inr (Or.inr (Or.inl h1))
  ·refine Or.inr (Or.inr (Or.inr ⟨by omega,?_⟩))
   rw[show a.length+q-1=a.length+(q-1) by omega,dS]
   exact h1
theorem Kd.nil:Kd []:=fun p hp=>by simp at hp
theorem Kd.one {c:UInt8}(h:sole (bt c)\/up (bt c)=true):Kd [c]:=by
 intro p hp
 have e:p=0:=by simp at hp;exact hp
 subst e
 rw[at_cons_zero]
 rcases h with h|h
 ·exact Or.inr (Or.inl h)
 ·exact Or.inr (Or.inr (Or.inl h))
theorem Kd.two {c d:UInt8}(h:iM (bt c)):Kd [c,d]:=by
 intro p hp
 have e:p=0\/p=1:=by simp at hp;omega
 rcases e with e|e<;>subst e
 ·rw[at_cons_zero];exact Or.inl h
 ·refine Or.inr (Or.inr (Or.inr ⟨by omega,?_⟩))
  rw[show 1-1=0 by omega,at_cons_zero];exact h
theorem wN {b:List UInt8}(h:Bd b):Kd b:=by
 induction h with
 | nil=>exact Kd.nil
 | lock c d r h1 h2 _ ih=>exact Kd.app (a:=[c,d]) (Kd.two (by unfold iM;omega)) ih
 | cell c d r h1 h2 _ ih=>exact Kd.app (a:=[c,d]) (Kd.two (by unfold iM;omega)) ih
 | one c r h1 _ ih =>
  refine Kd.app (a:=[c]) (Kd.one ?_) ih
  unfold sole
  rcases h1 with h|h|h|h
  ·exact Or.inl (by omega)
  ·exact Or.inl (by omega)
  ·exact Or.inl (by omega)
  ·exact Or.inr h
 | alt a b r _ _ _ ia ib ir =>
  have k1:Kd [(40:UInt8)]:=Kd.one (Or.inl (by unfold sole;decide))
  have k2:Kd [(124:UInt8)]:=Kd.one (Or.inl (by unfold sole;decide))
  have k3:Kd [(41:UInt8)]:=Kd.one (Or.inl (by unfold sole;decide))
  exact k1.app (ia.app (k2.app (ib.app (k3.app ir))))
 | star a r _ _ ia ir =>
  have k1:Kd [(91:UInt8)]:=Kd.one (Or.inl (by unfold sole;decide))
  have k2:Kd [(93:UInt8)]:=Kd.one (Or.inl (by unfold sole;decide))
  exact k1.app (ia.app (k2.app ir))
structure Pl (b:List UInt8)(p:Nat):Prop where
 le:p<=b.length
 tk:p=0\/¬iM (at_ b (p-1))
theorem Pl.zero (b:List UInt8):Pl b 0:=⟨Nat.zero_le _,Or.inl rfl⟩
theorem RD {b:List UInt8}(h:iq b){p:Nat}(hp:p<b.length):up (at_ b p)=false:=by
 have e:at_ b p=bt b[p]:=by simp[at_,bt,hp]
 rw[e];exact h _ (List.getElem_mem hp)
theorem Pl.kind {b:List UInt8}(hb:Bd b)(hu:iq b){p:Nat}(h:Pl b p)(hp:p<b.length):iM (at_ b p)\/sole (at_ b p):=by
 rcases wN hb p hp with h1|h1|h1 | ⟨h0,h1⟩
 ·exact Or.inl h1
 ·exact Or.inr h1
 ·rw[RD hu hp] at h1;cases h1
 ·rcases h.tk with e|e
  ·omega
  ·exact absurd h1 e
theorem Alt.ats {b:List UInt8}{i j k:Nat}(h:Alt b i j k):at_ b i=40/\at_ b j=124/\at_ b k=41:=by
 obtain ⟨pre,x,y,r,e,h1,h2,h3,_,_⟩:=h
 refine ⟨?_,?_,?_⟩
 ·rw[e,iG pre _ i 0 (by omega),at_cons_zero];rfl
 ·rw[e,show pre++40::(x++124::(y++41::r))=(pre++40::x)++(124::(y++41::r)) by simp,iG _ _ j 0 (by simp;omega),at_cons_zero];rfl
 ·rw[e,show pre++40::(x++124::(y++41::r))=(pre++40::(x++124::y))++(41::r) by simp,iG _ _ k 0 (by simp;omega),at_cons_zero];rfl
theorem Star.ats {b:List UInt8}{i k:Nat}(h:Star b i k):at_ b i=91/\at_ b k=93:=by
 obtain ⟨pre,x,r,e,h1,h2,_⟩:=h
 refine ⟨?_,?_⟩
 ·rw[e,iG pre _ i 0 (by omega),at_cons_zero];rfl
 ·rw[e,show pre++91::(x++93::r)=(pre++91::x)++(93::r) by simp,iG _ _ k 0 (by simp;omega),at_cons_zero];rfl
theorem uZ {b:List UInt8}(h:Bd b)(p:Nat)(hpl:Pl b p)(hp:p<b.length)(second:Bool):Pl b (behind b p second):=by
 refine ⟨Oa h p hp second,?_⟩
 have hb:=FR h p hp
 have hpk:=qc h p hp
 have ha:atB b p=at_ b p:=by simp[atB,hp]
 unfold behind
 rw[ha]
 split
 ·rename_i hc
  right
  rw[show p+2-1=p+1 by omega]
  unfold iM
  rcases hc with e|e|e|e
  ·have:=hpk.1 (Or.inl e);omega
  ·have:=hpk.1 (Or.inr e);omega
  ·have:=hpk.2 (Or.inl e);omega
  ·have:=hpk.2 (Or.inr e);omega
 rename_i hn
 split
 ·rename_i hc
  obtain ⟨j,k,hA⟩:=hb.o hc.1
  right;rw[hA.bar,show j+1-1=j by omega,hA.ats.2.1];unfold iM;omega
 split
 ·rename_i hc
  obtain ⟨j,k,hA⟩:=hb.m hc
  right;rw[hA.close,show k+1-1=k by omega,hA.ats.2.2];unfold iM;omega
 split
 ·rename_i hc
  obtain ⟨k,hA⟩:=hb.s hc.1
  right;rw[hA.close,show k+1-1=k by omega,hA.ats.2];unfold iM;omega
 split
 ·rename_i hc
  obtain ⟨i,hA⟩:=hb.e hc
  rw[hA.back]
  by_cases e:i=0
  ·exact Or.inl e
  ·right
   intro hh
   have hl:=hA.lt
   have hk:=qc h (i-1) (by omega)
   rw[show i-1+1=i by omega,hA.ats.1] at hk
   rcases hh with e1|e1|e1|e1
   ·have:=hk.1 (Or.inl e1);omega
   ·have:=hk.1 (Or.inr e1);omega
   ·have:=hk.2 (Or.inl e1);omega
   ·have:=hk.2 (Or.inr e1);omega
 ·right
  rw[show p+1-1=p by omega]
  exact hn
end Mc
end
section
namespace Mc
open Wd
def Rest (n:Nat)(S:Ma):Prop:=∀d,n<=d->S.cp d=bU
theorem yh (l:Nat):aY bU l=false:=by simp[aY,bU,aH,holds]
theorem Bl {S:Ma}{l:Nat}:∀(m k:Nat),(∀d,k<=d->S.cp d=bU)->dY S l k m=none
 | 0,_,_=>rfl
 | m+1,k,h=>by
  rw[dY,h k (Nat.le_refl _),yh]
  simp only[Bool.false_eq_true,if_false]
  exact Bl m (k+1) (fun d hd=>h d (by omega))
theorem A8 {S:Ma}{l:Nat}(j:Nat):∀(m k:Nat),(∀d,k+m<=d->S.cp d=bU)->dY S l k m=dY S l k (m+j)
 | 0,k,h=>(Bl (0+j) k (fun d hd=>h d (by omega))).symm
 | m+1,k,h=>by
  rw[show m+1+j=(m+j)+1 by omega,dY,dY,A8 j m (k+1) (fun d hd=>h d (by omega))]
theorem uz {n:Nat}{S:Ma}(hr:Rest n S)(hn:n<=3)(l:Nat):holder S n l=holder S 3 l:=by
 obtain ⟨j,hj⟩:∃j,n+j=3:=⟨3-n,by omega⟩
 unfold holder
 rw[<-hj]
 exact A8 j n 0 (fun d hd=>hr d (by omega))
theorem Bz {S:Ma}{l:Nat}:∀(m k d:Nat),dY S l k m=some d->k<=d/\d<k+m
 | 0,_,_,h=>by cases h
 | m+1,k,d,h=>by
  rw[dY] at h
  split at h
  ·cases h;omega
  ·have:=Bz m (k+1) d h;omega
theorem yI {S:Ma}{n l d:Nat}(h:holder S n l=some d):d<n:=by have:=Bz n 0 d h;omega
theorem Dt {its:List It}{S:Ma}{c:Nat}{x own:Int}{d:Nat}(h:S.cp d=bU):fP its S c x own d=false:=by
 have e:works S d=aH:=by simp[works,h,bU,aH]
 simp[fP,e,stands,aH]
theorem BB {its:List It}{S:Ma}{c:Nat}{x own:Int}:∀(m k:Nat),(∀d,k<=d->S.cp d=bU)->dO its S c x own k m=false
 | 0,_,_=>rfl
 | m+1,k,h=>by
  rw[dO,Dt (h k (Nat.le_refl _))]
  simp only[Bool.false_eq_true,if_false]
  exact BB m (k+1) (fun d hd=>h d (by omega))
theorem Bn {its:List It}{S:Ma}{c:Nat}{x own:Int}(j:Nat):∀(m k:Nat),(∀d,k+m<=d->S.cp d=bU)->dO its S c x own k m=dO its S c x own k (m+j)
 | 0,k,h=>(BB (0+j) k (fun d hd=>h d (by omega))).symm
 | m+1,k,h=>by
  rw[show m+1+j=(m+j)+1 by omega,dO,dO,Bn j m (k+1) (fun d hd=>h d (by omega))]
theorem KA {its:List It}{n:Nat}{S:Ma}(hr:Rest n S)(hn:n<=3)(c:Nat)(f:Fr):clash its S n c f=clash its S 3 c f:=by
 obtain ⟨j,hj⟩:∃j,n+j=3:=⟨3-n,by omega⟩
 unfold clash
 rw[<-hj]
 exact Bn j n 0 (fun d hd=>hr d (by omega))
def nx (its:List It)(S:Ma)(d:Nat):Option Nat:=(lW its (works S d)).bind (holder S 3)
def leadsTo (its:List It)(S:Ma)(c:Nat):Nat->Option Nat->Bool
 | 0,_=>false
 | _+1,none=>false
 | m+1,some d=>if d=c then true else leadsTo its S c m (nx its S d)
theorem Cy {its:List It}{n:Nat}{S:Ma}(hr:Rest n S)(hn:n<=3)(c:Nat):∀(m k l:Nat),iV its S n c (k+1) m l=leadsTo its S c m (holder S 3 l)
 | 0,_,_=>by cases h:holder S 3 _<;>rfl
 | m+1,k,l=>by
  rw[iV,uz hr hn]
  cases holder S 3 l with
  | none=>rfl
  | some d =>
   simp only[leadsTo]
   by_cases e:d=c
   ·simp[e]
   ·simp only[e,if_false]
    unfold nx
    cases lW its (works S d) with
    | none=>cases m<;>rfl
    | some l'=>exact Cy hr hn c m (k+1) l'
theorem Jy {its:List It}{S:Ma}{c d0:Nat}(hc:c<3)(h0:d0<3)(hne:d0≠c):leadsTo its S c 3 (nx its S d0)=leadsTo its S c 2 (nx its S d0):=by
 have hlt:∀d e,nx its S d=some e->e<3:=by
  intro d e h
  unfold nx at h
  cases hw:lW its (works S d) with
  | none=>rw[hw] at h;cases h
  | some l=>rw[hw] at h;exact yI h
 cases h1:nx its S d0 with
 | none=>rfl
 | some d1 =>
  rw[leadsTo,leadsTo]
  by_cases e1:d1=c
  ·simp[e1]
  simp only[e1,if_false]
  cases h2:nx its S d1 with
  | none=>rfl
  | some d2 =>
   rw[leadsTo,leadsTo]
   by_cases e2:d2=c
   ·simp[e2]
   simp only[e2,if_false]
   have l1:=hlt _ _ h1
   have l2:=hlt _ _ h2
   have hh:d2=d1\/d2=d0\/d1=d0:=by omega
   have hx:nx its S d2≠some c:=by
    rcases hh with e|e|e
    ·rw[e,h2];simpa using e2
    ·rw[e,h1];simpa using e1
    ·rw[e] at h2;rw[h1] at h2;have e3:d2=d1:=by cases h2;rfl
     rw[e3,e,h1];simpa using e1
   cases h3:nx its S d2 with
   | none=>rfl
   | some d3 =>
    rw[h3] at hx
    have e3:d3≠c:=by simpa using hx
    simp[leadsTo,e3]
theorem yj {its:List It}{n:Nat}{S:Ma}(hr:Rest n S)(hn:n<=3)(c l d0:Nat)(hc:c<n)(hl:holder S 3 l=some d0)(hne:d0≠c):ring its S n c l=leadsTo its S c 3 (some d0):=by
 have h0:d0<n:=yI (n:=n) (l:=l) (S:=S) (by rw[uz hr hn];exact hl)
 have e1:ring its S n c l=leadsTo its S c n (nx its S d0):=by
  unfold ring
  rw[iV,uz hr hn,hl]
  simp only[hne,if_false]
  unfold nx
  cases lW its (works S d0) with
  | none=>cases n<;>rfl
  | some l'=>exact Cy hr hn c n 0 l'
 rw[e1,leadsTo]
 simp only[hne,if_false]
 have hn2:n=2\/n=3:=by omega
 rcases hn2 with e|e
 ·rw[e]
 ·rw[e];exact Jy (by omega) (by omega) hne
theorem KC {its:List It}{n:Nat}{S:Ma}(hr:Rest n S)(hn:n<=3)(c:Nat)(f:Fr)(l:Nat)(hc:c<n):takes its S n c f l=takes its S 3 c f l:=by
 unfold takes
 rw[uz hr hn]
 cases hl:holder S 3 l with
 | none=>rfl
 | some d =>
  simp only
  by_cases e:d=c
  ·simp[e]
  ·have hr3:Rest 3 S:=fun d hd=>hr d (by omega)
   rw[yj hr hn c l d hc hl e,yj hr3 (Nat.le_refl _) c l d (by omega) hl e]
theorem Mj {its:List It}{n:Nat}{S:Ma}(hr:Rest n S)(hn:n<=3)(c:Nat)(hc:c<n)(second:Bool):step its S n c second=step its S 3 c second:=by
 unfold Mc.step
 simp only[KC hr hn c _ _ hc,KA hr hn]
theorem BD {its:List It}{n:Nat}{S:Ma}(hr:Rest n S)(hn:n<=3)(c:Nat)(hc:c<n)(what:Int):command its S n c what=command its S 3 c what:=by
 unfold command
 rw[Mj hr hn c hc]
theorem Rest.av {n:Nat}{S:Ma}(hr:Rest n S)(c:Nat)(hc:c<n)(x:Cp):Rest n (av S c x):=by
 intro d hd
 show (if d=c then x else S.cp d)=bU
 rw[if_neg (by omega)]
 exact hr d hd
theorem Rest.leaves {n:Nat}{S:Ma}(hr:Rest n S)(c:Nat)(hc:c<n)(p:Nat):Rest n (leaves S c p):=by
 unfold Mc.leaves
 exact Rest.av (S:=bA (aQ S _ true) _ p) hr c hc _
theorem Rest.step {its:List It}{n:Nat}{S:Ma}(hr:Rest n S)(m c:Nat)(hc:c<n)(second:Bool):Rest n (step its S m c second).2:=by
 unfold Mc.step
 simp only
 split
 ·exact hr
 split
 ·split
  ·exact hr
  ·exact hr.av c hc _
 split
 ·exact hr.av c hc _
 split
 ·split
  ·exact hr
  ·exact hr.leaves c hc _
 split
 ·exact hr
 ·exact (hr.av c hc _).av c hc _
theorem Rest.command {its:List It}{n:Nat}{S:Ma}(hr:Rest n S)(m c:Nat)(hc:c<n)(what:Int):Rest n (command its S m c what).2:=by
 unfold Mc.command
 split
 ·exact hr.step m c hc _
 split
 ·unfold comes
  split
  ·exact hr
  split
  ·split
   ·exact hr
   ·exact hr.av c hc _
  ·split
   ·exact hr
   ·exact Rest.av (S:=aQ S _ false) hr c hc _
 split
 ·exact hr
 ·exact hr.leaves c hc _
theorem Rest.aM (its:List It)(n:Nat):Rest n (aM its):=fun _ _=>rfl
end Mc
end
end Go.Proofs.YtecmfdkhcffpmaaGreat
