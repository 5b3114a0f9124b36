/- Unfolds, PureM1, MacA. -/
import Derived.Test.YtecmfdkhcffpmaaGreatRows
import Derived.Test.YtecmfdkhcffpmaaGreatB11
import Derived.ProofKit
import Derived.OpenShut
import Derived.ShutString
import Derived.Test.YtecmfdkhcffpmaaGreatB01
import Derived.WalkKit
import Derived.WalkSpells
import Derived.WalkLawsBesides
namespace Go.Proofs.YtecmfdkhcffpmaaGreat
open Go.RowKit
set_option linter.unusedVariables false
set_option linter.unusedSimpArgs false
set_option linter.unusedSectionVars false
set_option maxHeartbeats 8000000
set_option maxRecDepth 100000
section
open Go.ChangeShapes Go.WideShapes Go.ChangeAt Go.RowKit
open Go.ChangeMaps (open_string shut_string)
theorem Ea {w w':World}{base:Nat}{e:TypeId}{size:Nat}{v:Value}{n:Nat}{xs:List Value}(h:w.ownsRow base e size v n xs)(g:Nat)(hb:∀b,b≠g->w'.heap[b]?=w.heap[b]?)(hv:v.ownBlock≠some g):w'.ownsRow base e size v n xs:=by
 obtain ⟨a1,a2⟩:=h
 refine ⟨a1,?_⟩
 rcases a2 with a2 | ⟨g',cap,cur,hv',hg,hh,r⟩
 ·exact .inl a2
 ·refine .inr ⟨g',cap,cur,hv',hg,?_,r⟩
  rw[hb g' (fun e=>hv (by rw[hv',e];rfl))];exact hh
theorem LV (s:ByteArray)(hs:s.size<=maxLen)(w:World)(x:Int×Int)(hx:Wd.aF s.data.toList=.error x)(hne:x.1≠0) :
  Calls Tryz.prog 6 #[.string s] w fun e w'=>e=.returned (.bool true)/\Below w.heap.size w w':=by
 have hc:(Wd.bX s.data.toList).1=x.1:=by rw[<-Wd.pY,Wd.jQ,hx]
 have H1:=fun w=>BR s w hs (by rw[hc];exact hne)
 rw[hc] at H1
 have H2:=fun w=>AJ s w hs
 rw[hx] at H2
 have HH1:=hide H1
 have HH2:=hide H2
 clear H1 H2 hc hx
 obtain ⟨a,b⟩:=x
 simp only at hne HH1
 have n1:(a != a)=false:=by simp
 have n2:(a != 0)=true:=by rw[bne_iff_ne];exact hne
 have n3:(a==a)=true:=by simp
 clear hne
 go_enter Tryz.func6,Tryz.ntmps6
 go_wp2_with fail
 refine (HH1.out _).mono ?_
 rintro e w1 ⟨rfl,hb1⟩
 have HB1:=hide hb1
 clear hb1
 go_wp2_with fail
 refine (HH2.out _).mono ?_
 rintro e w2 ⟨hb2,rfl⟩
 have HB2:=hide (HB1.out.trans (hb2.mono HB1.out.size))
 clear hb2
 go_wp2_with fail
 refine (HH2.out _).mono ?_
 rintro e w3 ⟨hb3,rfl⟩
 have HB3:=hide (HB2.out.trans (hb3.mono HB2.out.size))
 clear hb3
 go_wp2_with fail
 refine (uy [] _ _ _ 0 0 (by simp) (World.ownsRow_nil _ _ _ _) (World.ownsRow_nil _ _ _ _)).mono ?_
 rintro e w4 ⟨rfl,hb4⟩
 have HB4:=hide (HB3.out.trans (hb4.mono HB3.out.size))
 clear hb4
 go_wp2_with fail
 go_loop [10] (fun i=>i=.int .i64 0) (fun _=>0)
 case atStart=>exact rfl
 case round =>
  subst hrel
  go_wp2_with fail
  refine (uy [] _ _ _ 0 0 (by simp) (World.ownsRow_nil _ _ _ _) (World.ownsRow_nil _ _ _ _)).mono ?_
  rintro e w5 ⟨rfl,hb5⟩
  have HB5:=hide (HB4.out.trans (hb5.mono HB4.out.size))
  clear hb5
  go_wp2_with fail
  go_ret
  exact ⟨rfl,HB5.out⟩
theorem LW (s:ByteArray)(hs:s.size<=240)(w:World)(its:List Wd.It)(hx:Wd.aF s.data.toList=.ok its)(hu:its=Wd.jE s.data.toList)(hlen:its.length<=240)(hL:∀i∈Wd.starts s.data.toList,∀p,p<=8->(Wd.gI s.data.toList (Wd.aU s.data.toList 8) (Wd.body s.data.toList i) p).length<=100000) :
  Calls Tryz.prog 6 #[.string s] w fun e w'=>e=.returned (.bool true)/\Below w.heap.size w w':=by
 have hc:(Wd.bX s.data.toList).1=0:=by rw[<-Wd.pY,Wd.jQ,hx]
 have H1:=fun w=>xC s w hs hc hL
 rw[<-hu] at H1
 have H2:=fun w=>AJ s w (by unfold maxLen;omega)
 rw[hx] at H2
 have HH1:=hide H1
 have HH2:=hide H2
 clear H1 H2 hc hx hu hL
 go_enter Tryz.func6,Tryz.ntmps6
 go_wp2_with fail
 refine (HH1.out _).mono ?_
 rintro e w1 ⟨v0,rfl,ho0,hb1⟩
 have HB1:=hide hb1
 have HO0:=hide ho0
 clear hb1 ho0
 go_wp2_with fail
 refine (HH2.out _).mono ?_
 rintro e w2 ⟨hb2,g1,eH,rfl,ho1⟩
 have HB2:=hide (HB1.out.trans (hb2.mono HB1.out.size))
 have sJ:=hide (own_below HO0.out hb2)
 have HO1:=hide ho1
 have HS2:Hid (w1.heap.size<=w2.heap.size):=hb2.size
 clear hb2 ho1
 go_wp2_with fail
 refine (HH2.out _).mono ?_
 rintro e w3 ⟨hb3,g2,cap2,rfl,ho2⟩
 have HB3:=hide (HB2.out.trans (hb3.mono HB2.out.size))
 have nN:=hide (own_below sJ.out hb3)
 have nO:=hide (own_below HO1.out hb3)
 have HO2:=hide ho2
 have hg1:=HO1.out.lt g1 rfl
 have hg2:=HO2.out.lt g2 rfl
 have hg0:v0.ownBlock≠some g1:=fun e=>by have:=(HO0.out.lt g1 e).2;omega
 have oQ:(Value.slice (some ⟨g2,0,none⟩) its.length cap2).ownBlock≠some g1:=fun e=>by simp[Value.ownBlock] at e;omega
 have hwg:w.heap.size<=g1:=by have:=HB1.out.size;omega
 clear hb3 ho2
 go_wp2_with fail
 refine (uy its _ _ _ _ _ (by omega) nO.out nN.out).mono ?_
 rintro e w4 ⟨rfl,hb4⟩
 have HB4:=hide (HB3.out.trans (hb4.mono HB3.out.size))
 have oU:=hide (own_below nN.out hb4)
 have jw:=hide (own_below nO.out hb4)
 have oV:=hide (own_below HO2.out hb4)
 clear hb4
 have hcp:eH<=maxLen:=by
  obtain ⟨ao,cap,e1,_,hm,_⟩:=vN jw.out
  cases e1;exact hm
 have hnc:its.length<=eH:=by
  obtain ⟨ao,cap,e1,hm,_,_⟩:=vN jw.out
  cases e1;exact hm
 unfold maxLen at hcp
 have HXS:Hid (∀j,j<its.length->∃h:Bool,(Wd.dV its)[j*2]?=some (.bool h)):=fun j hj=>⟨_,by rw[show j*2=j*2+0 from rfl,yX its j 0 hj (by omega)];rfl⟩
 have HXL:Hid ((Wd.dV its).length=its.length*2):=jw.out.1
 go_wp2_with fail
 go_loopw [10] (fun a wr=>∃(k:Nat) (xs:List Value),k<=its.length/\a=.int .i64 k/\xs.length=its.length*2/\(∀j,j<its.length->∃h:Bool,xs[j*2]?=some (.bool h))/\wr.ownsRow w1.heap.size 37 2 (.slice (some ⟨g1,0,none⟩) its.length eH) its.length xs/\(∀b,b≠g1->wr.heap[b]?=w4.heap[b]?)/\Below w.heap.size w wr) (fun a _=>its.length-(intOf a).toNat)
 case atStart=>exact ⟨0,Wd.dV its,Nat.zero_le _,rfl,HXL.out,HXS.out,jw.out,fun _ _=>rfl,HB4.out⟩
 case round =>
  obtain ⟨k,xs,hk,rfl,hxl,hxs,hO,hbl,hbe⟩:=hrel
  have HO:=hide hO
  have HBL:=hide hbl
  have HB:=hide hbe
  have Uh:=hide hxs
  have qP:=hide hxl
  by_cases hlt:k<its.length
  ·obtain ⟨h,hh⟩:=hxs k hlt
   have d0:=(HO.out.cellAt (k*2) (by omega)).trans hh
   have hx1:k*2+1<xs.length:=by omega
   have d1:=(HO.out.cellAt (k*2+1) (by omega)).trans (List.getElem?_eq_getElem hx1)
   have f0:=HO.out.frozenAt (k*2)
   have f1:=HO.out.frozenAt (k*2+1)
   generalize xs[k*2+1]=u1 at *
   clear hxl hxs hO hbl hbe hh
   go_wp2_with fail
   refine ⟨⟨k+1,(xs.set (k*2) (.bool !h)).set (k*2+1) (.string ⟨#[120]⟩),by omega,by go_num,by simp[qP.out],?_,((HO.out.stored _ _).1.stored _ _).1,?_,(HB.out.setCell (p:=⟨g1,k*2,none⟩) hwg _).setCell (p:=⟨g1,k*2+1,none⟩) hwg _⟩,by simp[intOf];omega⟩
   ·intro j hj
    obtain ⟨h',e⟩:=Uh.out j hj
    have hxl:=qP.out
    rw[List.getElem?_set_ne (by omega)]
    by_cases ej:j=k
    ·subst ej;exact ⟨!h,by rw[List.getElem?_set_self (by omega)]⟩
    ·exact ⟨h',by rw[List.getElem?_set_ne (by omega)];exact e⟩
   ·intro b hb
    rw[heap_setCell_other _ _ _ _ hb,heap_setCell_other _ _ _ _ hb];exact HBL.out b hb
  ·clear hxl hxs hO hbl hbe
   go_wp2_with fail
   refine (uy its _ _ _ _ _ (by omega) (Ea oV.out g1 HBL.out oQ) (Ea oU.out g1 HBL.out hg0)).mono ?_
   rintro e w5 ⟨rfl,hb5⟩
   have HB5:=hide (HB.out.trans (hb5.mono HB.out.size))
   clear hb5
   go_wp2_with fail
   go_ret
   exact ⟨rfl,HB5.out⟩
theorem Jq (s:ByteArray)(hs:s.size<=maxLen)(w:World) :
  Calls Tryz.prog 6 #[.string s] w fun e w'=>e=.returned (.bool true)/\Below w.heap.size w w':=by
 cases hx:Wd.aF s.data.toList with
 | error x=>exact LV s hs w x hx (Wd.jf hx)
 | ok its =>
  obtain ⟨h1,h2,h3,h4⟩:=Wd.yc hx
  exact LW s (by rw[<-Wd.aI];exact h1) w its hx h2 h3 h4
end
section
namespace Mc
open Wd
def dp (c:Int):Int:=if c=40\/c=91 then 1 else if c=41\/c=93 then -1 else 0
def dB (c:Int):List UInt8->Int->Nat->Nat
 | [],_,i=>i
 | x::r,d,i=>if d=0/\bt x=c then i else dB c r (d+dp (bt x)) (i+1)
def ahead (b:List UInt8)(p:Nat)(c:Int):Nat:=dB c (b.drop (p+1)) 0 (p+1)
def dL (b:List UInt8):Nat->Int->Nat
 | 0,_=>0
 | i+1,d=>if d=0/\at_ b i=91 then i else dL b i (d-dp (at_ b i))
def back (b:List UInt8)(p:Nat):Nat:=dL b p 0
def atB (b:List UInt8)(p:Nat):Int:=if p<b.length then at_ b p else 101
def num (b:List UInt8)(p:Nat):Int:=if p+1<b.length then (if 97<=at_ b (p+1) then at_ b (p+1)-97 else at_ b (p+1)-48) else 0
def behind (b:List UInt8)(p:Nat)(second:Bool):Nat :=
 if atB b p=43\/atB b p=45\/atB b p=114\/atB b p=119 then p+2
 else if atB b p=40/\second=true then ahead b p 124+1
 else if atB b p=124 then ahead b p 41+1
 else if atB b p=91/\second=true then ahead b p 93+1
 else if atB b p=93 then back b p
 else p+1
theorem Kl (c:Int)(s:ByteArray)(k:Nat)(d:Int)(h:k<s.size):dB c (s.data.toList.drop k) d k=if d=0/\((s[k].toNat:Nat):Int)=c then k else dB c (s.data.toList.drop (k+1)) (d+dp ((s[k].toNat:Nat):Int)) (k+1):=by
 rw[drop_cons s k h];rfl
theorem LX (c:Int)(s:ByteArray)(k:Nat)(d:Int)(h:s.size<=k):dB c (s.data.toList.drop k) d k=k:=by
 rw[List.drop_of_length_le (by rw[aI];exact h)];rfl
theorem NT (c:Int)(l:List UInt8)(d:Int)(i:Nat):i<=dB c l d i/\dB c l d i<=i+l.length:=by
 induction l generalizing d i with
 | nil=>simp[dB]
 | cons x r ih =>
  unfold dB
  split
  ·simp
  ·have:=ih (d+dp (bt x)) (i+1)
   simp;omega
theorem qj (b:List UInt8)(p:Nat)(c:Int)(h:p<b.length):p<ahead b p c/\ahead b p c<=b.length:=by
 have:=NT c (b.drop (p+1)) 0 (p+1)
 unfold ahead
 simp at this;omega
theorem P5 (b:List UInt8)(i:Nat)(d:Int):dL b i d<=i:=by
 induction i generalizing d with
 | zero=>simp[dL]
 | succ i ih =>
  unfold dL
  split
  ·omega
  ·have:=ih (d-dp (at_ b i));omega
def holds (held:Nat)(l:Nat):Bool:=held.testBit l
end Mc
theorem jG (l:List UInt8)(p:Nat):0<=Mc.atB l p/\Mc.atB l p<=255:=by
 unfold Mc.atB
 split
 ·exact ⟨Wd.iL _ _,Wd.iD _ _⟩
 ·omega
end
theorem wI:Mc.dp 40=1:=by decide
theorem zP:Mc.dp 91=1:=by decide
theorem wJ:Mc.dp 41=-1:=by decide
theorem wK:Mc.dp 93=-1:=by decide
theorem wL {c:Int}(h1:(c==40)=false)(h2:(c==91)=false)(h3:(c==41)=false)(h4:(c==93)=false):Mc.dp c=0:=by
 simp at h1 h2 h3 h4
 simp[Mc.dp,h1,h2,h3,h4]
theorem yC (s:ByteArray)(q:Nat)(c:Int)(w:World)(hs:s.size<=10000)(hq:q<s.size)(h0:0<=c)(h1:c<=255) :
  Calls Tryz.prog 141 #[.string s,.int .i64 q,.int .u8 c] w fun e w'=>e=.returned (.int .i64 ((Mc.ahead s.data.toList q c:Nat):Int))/\w'=w:=by
 go_enter Tryz.func141,Tryz.ntmps141
 go_wp2
 go_loop [7,8] (fun a b=>∃(k:Nat) (d:Int),q+1<=k/\k<=s.size/\a=.int .i64 d/\b=.int .i64 k/\-10000<=d+k/\d<=k/\Mc.ahead s.data.toList q c=Mc.dB c (s.data.toList.drop k) d k) (fun _ b=>s.size-(intOf b).toNat)
 case atStart=>exact ⟨q+1,0,by omega,by omega,rfl,by go_num,by omega,by omega,rfl⟩
 case round =>
  obtain ⟨k,d,hk0,hk,rfl,rfl,hd0,hd1,hp⟩:=hrel
  have HP:=hide hp
  clear hp
  by_cases hlt:k<s.size
  ·have HS:=hide (Mc.Kl c s k d hlt)
   by_cases hz:d=0
   ·cases hc:(((s[k].toNat:Nat):Int)==c)
    ·have z1:(d==0)=true:=by rw[hz];rfl
     have HN:Hid (Mc.dB c (s.data.toList.drop k) d k=Mc.dB c (s.data.toList.drop (k+1)) (d+Mc.dp ((s[k].toNat:Nat):Int)) (k+1)):=by
      apply hide;rw[HS.out,if_neg];rintro ⟨_,e⟩;simp[e] at hc
     clear hz
     by_cases e40:((s[k].toNat:Nat):Int)=40
     ·have t1:(((s[k].toNat:Nat):Int)==40)=true:=by rw[e40];rfl
      have t2:(((s[k].toNat:Nat):Int)==91)=false:=by rw[e40];rfl
      have t3:(((s[k].toNat:Nat):Int)==41)=false:=by rw[e40];rfl
      have t4:(((s[k].toNat:Nat):Int)==93)=false:=by rw[e40];rfl
      have HD:Hid (Mc.dp ((s[k].toNat:Nat):Int)=1):=by rw[e40];exact wI
      clear e40
      go_wp2
      go_round
      case rel=>exact ⟨k+1,d+1,by omega,by omega,rfl,by go_num,by omega,by omega,by rw[HP.out,HN.out,HD.out]<;>(try congr 1)<;>(try omega)⟩
      case measure=>simp[intOf]<;>omega
     by_cases e91:((s[k].toNat:Nat):Int)=91
     ·have t1:(((s[k].toNat:Nat):Int)==40)=false:=by rw[e91];rfl
      have t2:(((s[k].toNat:Nat):Int)==91)=true:=by rw[e91];rfl
      have t3:(((s[k].toNat:Nat):Int)==41)=false:=by rw[e91];rfl
      have t4:(((s[k].toNat:Nat):Int)==93)=false:=by rw[e91];rfl
      have HD:Hid (Mc.dp ((s[k].toNat:Nat):Int)=1):=by rw[e91];exact zP
      clear e91 e40
      go_wp2
      go_round
      case rel=>exact ⟨k+1,d+1,by omega,by omega,rfl,by go_num,by omega,by omega,by rw[HP.out,HN.out,HD.out]<;>(try congr 1)<;>(try omega)⟩
      case measure=>simp[intOf]<;>omega
     by_cases e41:((s[k].toNat:Nat):Int)=41
     ·have t1:(((s[k].toNat:Nat):Int)==40)=false:=by rw[e41];rfl
      have t2:(((s[k].toNat:Nat):Int)==91)=false:=by rw[e41];rfl
      have t3:(((s[k].toNat:Nat):Int)==41)=true:=by rw[e41];rfl
      have t4:(((s[k].toNat:Nat):Int)==93)=false:=by rw[e41];rfl
      have HD:Hid (Mc.dp ((s[k].toNat:Nat):Int)=-1):=by rw[e41];exact wJ
      clear e41 e91 e40
      go_wp2
      go_round
      case rel=>exact ⟨k+1,d-1,by omega,by omega,rfl,by go_num,by omega,by omega,by rw[HP.out,HN.out,HD.out]<;>(try congr 1)<;>(try omega)⟩
      case measure=>simp[intOf]<;>omega
     by_cases e93:((s[k].toNat:Nat):Int)=93
     ·have t1:(((s[k].toNat:Nat):Int)==40)=false:=by rw[e93];rfl
      have t2:(((s[k].toNat:Nat):Int)==91)=false:=by rw[e93];rfl
      have t3:(((s[k].toNat:Nat):Int)==41)=false:=by rw[e93];rfl
      have t4:(((s[k].toNat:Nat):Int)==93)=true:=by rw[e93];rfl
      have HD:Hid (Mc.dp ((s[k].toNat:Nat):Int)=-1):=by rw[e93];exact wK
      clear e93 e41 e91 e40
      go_wp2
      go_round
      case rel=>exact ⟨k+1,d-1,by omega,by omega,rfl,by go_num,by omega,by omega,by rw[HP.out,HN.out,HD.out]<;>(try congr 1)<;>(try omega)⟩
      case measure=>simp[intOf]<;>omega
     have t1:(((s[k].toNat:Nat):Int)==40)=false:=beq_eq_false_iff_ne.2 e40
     have t2:(((s[k].toNat:Nat):Int)==91)=false:=beq_eq_false_iff_ne.2 e91
     have t3:(((s[k].toNat:Nat):Int)==41)=false:=beq_eq_false_iff_ne.2 e41
     have t4:(((s[k].toNat:Nat):Int)==93)=false:=beq_eq_false_iff_ne.2 e93
     have HD:Hid (Mc.dp ((s[k].toNat:Nat):Int)=0):=wL t1 t2 t3 t4
     clear e40 e91 e41 e93
     go_wp2
     go_round
     case rel=>exact ⟨k+1,d,by omega,by omega,rfl,by go_num,by omega,by omega,by rw[HP.out,HN.out,HD.out]<;>(try congr 1)<;>(try omega)⟩
     case measure=>simp[intOf]<;>omega
    ·have z1:(d==0)=true:=by rw[hz];rfl
     have HN:Hid (Mc.dB c (s.data.toList.drop k) d k=k):=by
      apply hide;rw[HS.out,if_pos ⟨hz,by simpa using hc⟩]
     clear hz
     go_wp2
     go_ret
     exact ⟨aO (by rw[HP.out,HN.out]),rfl⟩
   ·have z1:(d==0)=false:=beq_eq_false_iff_ne.2 hz
    have HN:Hid (Mc.dB c (s.data.toList.drop k) d k=Mc.dB c (s.data.toList.drop (k+1)) (d+Mc.dp ((s[k].toNat:Nat):Int)) (k+1)):=by
     apply hide;rw[HS.out,if_neg];rintro ⟨e,_⟩;exact hz e
    clear hz
    by_cases e40:((s[k].toNat:Nat):Int)=40
    ·have t1:(((s[k].toNat:Nat):Int)==40)=true:=by rw[e40];rfl
     have t2:(((s[k].toNat:Nat):Int)==91)=false:=by rw[e40];rfl
     have t3:(((s[k].toNat:Nat):Int)==41)=false:=by rw[e40];rfl
     have t4:(((s[k].toNat:Nat):Int)==93)=false:=by rw[e40];rfl
     have HD:Hid (Mc.dp ((s[k].toNat:Nat):Int)=1):=by rw[e40];exact wI
     clear e40
     go_wp2
     go_round
     case rel=>exact ⟨k+1,d+1,by omega,by omega,rfl,by go_num,by omega,by omega,by rw[HP.out,HN.out,HD.out]<;>(try congr 1)<;>(try omega)⟩
     case measure=>simp[intOf]<;>omega
    by_cases e91:((s[k].toNat:Nat):Int)=91
    ·have t1:(((s[k].toNat:Nat):Int)==40)=false:=by rw[e91];rfl
     have t2:(((s[k].toNat:Nat):Int)==91)=true:=by rw[e91];rfl
     have t3:(((s[k].toNat:Nat):Int)==41)=false:=by rw[e91];rfl
     have t4:(((s[k].toNat:Nat):Int)==93)=false:=by rw[e91];rfl
     have HD:Hid (Mc.dp ((s[k].toNat:Nat):Int)=1):=by rw[e91];exact zP
     clear e91 e40
     go_wp2
     go_round
     case rel=>exact ⟨k+1,d+1,by omega,by omega,rfl,by go_num,by omega,by omega,by rw[HP.out,HN.out,HD.out]<;>(try congr 1)<;>(try omega)⟩
     case measure=>simp[intOf]<;>omega
    by_cases e41:((s[k].toNat:Nat):Int)=41
    ·have t1:(((s[k].toNat:Nat):Int)==40)=false:=by rw[e41];rfl
     have t2:(((s[k].toNat:Nat):Int)==91)=false:=by rw[e41];rfl
     have t3:(((s[k].toNat:Nat):Int)==41)=true:=by rw[e41];rfl
     have t4:(((s[k].toNat:Nat):Int)==93)=false:=by rw[e41];rfl
     have HD:Hid (Mc.dp ((s[k].toNat:Nat):Int)=-1):=by rw[e41];exact wJ
     clear e41 e91 e40
     go_wp2
     go_round
     case rel=>exact ⟨k+1,d-1,by omega,by omega,rfl,by go_num,by omega,by omega,by rw[HP.out,HN.out,HD.out]<;>(try congr 1)<;>(try omega)⟩
     case measure=>simp[intOf]<;>omega
    by_cases e93:((s[k].toNat:Nat):Int)=93
    ·have t1:(((s[k].toNat:Nat):Int)==40)=false:=by rw[e93];rfl
     have t2:(((s[k].toNat:Nat):Int)==91)=false:=by rw[e93];rfl
     have t3:(((s[k].toNat:Nat):Int)==41)=false:=by rw[e93];rfl
     have t4:(((s[k].toNat:Nat):Int)==93)=true:=by rw[e93];rfl
     have HD:Hid (Mc.dp ((s[k].toNat:Nat):Int)=-1):=by rw[e93];exact wK
     clear e93 e41 e91 e40
     go_wp2
     go_round
     case rel=>exact ⟨k+1,d-1,by omega,by omega,rfl,by go_num,by omega,by omega,by rw[HP.out,HN.out,HD.out]<;>(try congr 1)<;>(try omega)⟩
     case measure=>simp[intOf]<;>omega
    have t1:(((s[k].toNat:Nat):Int)==40)=false:=beq_eq_false_iff_ne.2 e40
    have t2:(((s[k].toNat:Nat):Int)==91)=false:=beq_eq_false_iff_ne.2 e91
    have t3:(((s[k].toNat:Nat):Int)==41)=false:=beq_eq_false_iff_ne.2 e41
    have t4:(((s[k].toNat:Nat):Int)==93)=false:=beq_eq_false_iff_ne.2 e93
    have HD:Hid (Mc.dp ((s[k].toNat:Nat):Int)=0):=wL t1 t2 t3 t4
    clear e40 e91 e41 e93
    go_wp2
    go_round
    case rel=>exact ⟨k+1,d,by omega,by omega,rfl,by go_num,by omega,by omega,by rw[HP.out,HN.out,HD.out]<;>(try congr 1)<;>(try omega)⟩
    case measure=>simp[intOf]<;>omega
  ·go_wp2
   go_ret
   exact ⟨aO (by rw[HP.out,Mc.LX c s k d (by omega)];omega),rfl⟩
theorem P6 (s:ByteArray)(q:Nat)(w:World)(hs:s.size<=10000)(hq:q<=s.size) :
  Calls Tryz.prog 142 #[.string s,.int .i64 q] w fun e w'=>e=.returned (.int .i64 ((Mc.back s.data.toList q:Nat):Int))/\w'=w:=by
 go_enter Tryz.func142,Tryz.ntmps142
 go_wp2
 go_loop [5,6] (fun a b=>∃(m:Nat) (d:Int),m<=q/\a=.int .i64 d/\b=.int .i64 ((m:Int)-1)/\-10000+m<=d+q/\d+m<=q/\Mc.back s.data.toList q=Mc.dL s.data.toList m d) (fun _ b=>(intOf b+1).toNat)
 case atStart=>exact ⟨q,0,by omega,rfl,rfl,by omega,by omega,rfl⟩
 case round =>
  obtain ⟨m,d,hm,rfl,rfl,hd0,hd1,hp⟩:=hrel
  have HP:=hide hp
  clear hp
  cases m with
  | zero =>
   go_wp2
   go_ret
   exact ⟨aO (by rw[HP.out];rfl),rfl⟩
  | succ k =>
   have hlt:k<s.size:=by omega
   have HB:=hide (Wd.dz s k hlt)
   have ek:(((k+1:Nat):Int)-1)=(k:Int):=by omega
   rw[ek]
   clear ek
   by_cases hz:d=0
   ·cases hc:(((s[k].toNat:Nat):Int)==91)
    ·have z1:(d==0)=true:=by rw[hz];rfl
     have HN:Hid (Mc.dL s.data.toList (k+1) d=Mc.dL s.data.toList k (d-Mc.dp ((s[k].toNat:Nat):Int))):=by
      apply hide;rw[Mc.dL,<-HB.out,if_neg];rintro ⟨_,e⟩;simp[e] at hc
     clear hz
     have t2':=hc
     by_cases e40:((s[k].toNat:Nat):Int)=40
     ·have t1:(((s[k].toNat:Nat):Int)==40)=true:=by rw[e40];rfl
      have t2:(((s[k].toNat:Nat):Int)==91)=false:=by rw[e40];rfl
      have t3:(((s[k].toNat:Nat):Int)==41)=false:=by rw[e40];rfl
      have t4:(((s[k].toNat:Nat):Int)==93)=false:=by rw[e40];rfl
      have HD:Hid (Mc.dp ((s[k].toNat:Nat):Int)=1):=by rw[e40];exact wI
      clear e40
      go_wp2
      go_round
      case rel=>exact ⟨k,d-1,by omega,rfl,by go_num,by omega,by omega,by rw[HP.out,HN.out,HD.out]<;>(try congr 1)<;>(try omega)⟩
      case measure=>simp[intOf]<;>omega
     by_cases e91:((s[k].toNat:Nat):Int)=91
     ·exfalso;rw[e91] at hc;cases hc
     by_cases e41:((s[k].toNat:Nat):Int)=41
     ·have t1:(((s[k].toNat:Nat):Int)==40)=false:=by rw[e41];rfl
      have t2:(((s[k].toNat:Nat):Int)==91)=false:=by rw[e41];rfl
      have t3:(((s[k].toNat:Nat):Int)==41)=true:=by rw[e41];rfl
      have t4:(((s[k].toNat:Nat):Int)==93)=false:=by rw[e41];rfl
      have HD:Hid (Mc.dp ((s[k].toNat:Nat):Int)=-1):=by rw[e41];exact wJ
      clear e41 e91 e40
      go_wp2
      go_round
      case rel=>exact ⟨k,d+1,by omega,rfl,by go_num,by omega,by omega,by rw[HP.out,HN.out,HD.out]<;>(try congr 1)<;>(try omega)⟩
      case measure=>simp[intOf]<;>omega
     by_cases e93:((s[k].toNat:Nat):Int)=93
     ·have t1:(((s[k].toNat:Nat):Int)==40)=false:=by rw[e93];rfl
      have t2:(((s[k].toNat:Nat):Int)==91)=false:=by rw[e93];rfl
      have t3:(((s[k].toNat:Nat):Int)==41)=false:=by rw[e93];rfl
      have t4:(((s[k].toNat:Nat):Int)==93)=true:=by rw[e93];rfl
      have HD:Hid (Mc.dp ((s[k].toNat:Nat):Int)=-1):=by rw[e93];exact wK
      clear e93 e41 e91 e40
      go_wp2
      go_round
      case rel=>exact ⟨k,d+1,by omega,rfl,by go_num,by omega,by omega,by rw[HP.out,HN.out,HD.out]<;>(try congr 1)<;>(try omega)⟩
      case measure=>simp[intOf]<;>omega
     have t1:(((s[k].toNat:Nat):Int)==40)=false:=beq_eq_false_iff_ne.2 e40
     have t2:(((s[k].toNat:Nat):Int)==91)=false:=beq_eq_false_iff_ne.2 e91
     have t3:(((s[k].toNat:Nat):Int)==41)=false:=beq_eq_false_iff_ne.2 e41
     have t4:(((s[k].toNat:Nat):Int)==93)=false:=beq_eq_false_iff_ne.2 e93
     have HD:Hid (Mc.dp ((s[k].toNat:Nat):Int)=0):=wL t1 t2 t3 t4
     clear e40 e91 e41 e93
     go_wp2
     go_round
     case rel=>exact ⟨k,d,by omega,rfl,by go_num,by omega,by omega,by rw[HP.out,HN.out,HD.out]<;>(try congr 1)<;>(try omega)⟩
     case measure=>simp[intOf]<;>omega
    ·have z1:(d==0)=true:=by rw[hz];rfl
     have HN:Hid (Mc.dL s.data.toList (k+1) d=k):=by
      apply hide;rw[Mc.dL,<-HB.out,if_pos ⟨hz,by simpa using hc⟩]
     clear hz
     go_wp2
     go_ret
     exact ⟨aO (by rw[HP.out,HN.out]),rfl⟩
   ·have z1:(d==0)=false:=beq_eq_false_iff_ne.2 hz
    have HN:Hid (Mc.dL s.data.toList (k+1) d=Mc.dL s.data.toList k (d-Mc.dp ((s[k].toNat:Nat):Int))):=by
     apply hide;rw[Mc.dL,<-HB.out,if_neg];rintro ⟨e,_⟩;exact hz e
    clear hz
    by_cases e40:((s[k].toNat:Nat):Int)=40
    ·have t1:(((s[k].toNat:Nat):Int)==40)=true:=by rw[e40];rfl
     have t2:(((s[k].toNat:Nat):Int)==91)=false:=by rw[e40];rfl
     have t3:(((s[k].toNat:Nat):Int)==41)=false:=by rw[e40];rfl
     have t4:(((s[k].toNat:Nat):Int)==93)=false:=by rw[e40];rfl
     have HD:Hid (Mc.dp ((s[k].toNat:Nat):Int)=1):=by rw[e40];exact wI
     clear e40
     go_wp2
     go_round
     case rel=>exact ⟨k,d-1,by omega,rfl,by go_num,by omega,by omega,by rw[HP.out,HN.out,HD.out]<;>(try congr 1)<;>(try omega)⟩
     case measure=>simp[intOf]<;>omega
    by_cases e91:((s[k].toNat:Nat):Int)=91
    ·have t1:(((s[k].toNat:Nat):Int)==40)=false:=by rw[e91];rfl
     have t2:(((s[k].toNat:Nat):Int)==91)=true:=by rw[e91];rfl
     have t3:(((s[k].toNat:Nat):Int)==41)=false:=by rw[e91];rfl
     have t4:(((s[k].toNat:Nat):Int)==93)=false:=by rw[e91];rfl
     have HD:Hid (Mc.dp ((s[k].toNat:Nat):Int)=1):=by rw[e91];exact zP
     clear e91 e40
     go_wp2
     go_round
     case rel=>exact ⟨k,d-1,by omega,rfl,by go_num,by omega,by omega,by rw[HP.out,HN.out,HD.out]<;>(try congr 1)<;>(try omega)⟩
     case measure=>simp[intOf]<;>omega
    by_cases e41:((s[k].toNat:Nat):Int)=41
    ·have t1:(((s[k].toNat:Nat):Int)==40)=false:=by rw[e41];rfl
     have t2:(((s[k].toNat:Nat):Int)==91)=false:=by rw[e41];rfl
     have t3:(((s[k].toNat:Nat):Int)==41)=true:=by rw[e41];rfl
     have t4:(((s[k].toNat:Nat):Int)==93)=false:=by rw[e41];rfl
     have HD:Hid (Mc.dp ((s[k].toNat:Nat):Int)=-1):=by rw[e41];exact wJ
     clear e41 e91 e40
     go_wp2
     go_round
     case rel=>exact ⟨k,d+1,by omega,rfl,by go_num,by omega,by omega,by rw[HP.out,HN.out,HD.out]<;>(try congr 1)<;>(try omega)⟩
     case measure=>simp[intOf]<;>omega
    by_cases e93:((s[k].toNat:Nat):Int)=93
    ·have t1:(((s[k].toNat:Nat):Int)==40)=false:=by rw[e93];rfl
     have t2:(((s[k].toNat:Nat):Int)==91)=false:=by rw[e93];rfl
     have t3:(((s[k].toNat:Nat):Int)==41)=false:=by rw[e93];rfl
     have t4:(((s[k].toNat:Nat):Int)==93)=true:=by rw[e93];rfl
     have HD:Hid (Mc.dp ((s[k].toNat:Nat):Int)=-1):=by rw[e93];exact wK
     clear e93 e41 e91 e40
     go_wp2
     go_round
     case rel=>exact ⟨k,d+1,by omega,rfl,by go_num,by omega,by omega,by rw[HP.out,HN.out,HD.out]<;>(try congr 1)<;>(try omega)⟩
     case measure=>simp[intOf]<;>omega
    have t1:(((s[k].toNat:Nat):Int)==40)=false:=beq_eq_false_iff_ne.2 e40
    have t2:(((s[k].toNat:Nat):Int)==91)=false:=beq_eq_false_iff_ne.2 e91
    have t3:(((s[k].toNat:Nat):Int)==41)=false:=beq_eq_false_iff_ne.2 e41
    have t4:(((s[k].toNat:Nat):Int)==93)=false:=beq_eq_false_iff_ne.2 e93
    have HD:Hid (Mc.dp ((s[k].toNat:Nat):Int)=0):=wL t1 t2 t3 t4
    clear e40 e91 e41 e93
    go_wp2
    go_round
    case rel=>exact ⟨k,d,by omega,rfl,by go_num,by omega,by omega,by rw[HP.out,HN.out,HD.out]<;>(try congr 1)<;>(try omega)⟩
    case measure=>simp[intOf]<;>omega
end Go.Proofs.YtecmfdkhcffpmaaGreat
