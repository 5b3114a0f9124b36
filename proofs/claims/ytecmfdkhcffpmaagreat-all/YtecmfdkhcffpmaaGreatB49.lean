/- Orders, FnA, StR, KpA. -/
import Derived.Test.YtecmfdkhcffpmaaGreatRows
import Derived.Test.YtecmfdkhcffpmaaGreatB48
import Derived.ProofKit
import Derived.OpenShut
import Derived.ShutString
import Derived.Test.YtecmfdkhcffpmaaGreatB20
import Derived.Test.YtecmfdkhcffpmaaGreatB21
import Derived.Test.YtecmfdkhcffpmaaGreatB41
import Derived.Test.YtecmfdkhcffpmaaGreatB36
import Derived.Test.YtecmfdkhcffpmaaGreatB15
namespace Go.Proofs.YtecmfdkhcffpmaaGreat
open Go.RowKit
set_option linter.unusedVariables false
set_option linter.unusedSimpArgs false
set_option linter.unusedSectionVars false
set_option maxHeartbeats 8000000
set_option maxRecDepth 100000
section
open Go.ChangeShapes Go.WideShapes Go.ChangeAt Go.RowKit
open Go.ChangeMaps (open_string shut_string)
open Mc
theorem Ba {w w':World}{base:Nat}{e:TypeId}{size:Nat}{v:Value}{n:Nat}{xs:List Value}(h:w.ownsRow base e size v n xs)(g:Nat)(hb:∀b,b≠g->w'.heap[b]?=w.heap[b]?)(hv:v.ownBlock≠some g):w'.ownsRow base e size v n xs:=by
 obtain ⟨a1,a2⟩:=h
 refine ⟨a1,?_⟩
 rcases a2 with a2 | ⟨g',cap,cur,hv',hg,hh,r⟩
 ·exact .inl a2
 ·refine .inr ⟨g',cap,cur,hv',hg,?_,r⟩
  rw[hb g' (fun e=>hv (by rw[hv',e];rfl))];exact hh
theorem Nj (its:List Wd.It)(hf:bH its):(cO (bT its) 6).length<=30000:=by have:=yQ (bT its) 6;omega
theorem Pj (s:ByteArray)(hs:s.size<=maxLen)(w:World)(x:Int×Int)(hx:Wd.aF s.data.toList=.error x)(hne:x.1≠0) :
  Calls Tryz.prog 10 #[.string s] w fun e w'=>e=.returned (.bool true)/\Below w.heap.size w w':=by
 have H1:=fun w=>DI s w hs
 have H2:=fun w=>DJ s w hs
 rw[hx] at H1 H2
 have HH1:=hide H1
 have HH2:=hide H2
 clear H1 H2 hx
 obtain ⟨a,b⟩:=x
 simp only at hne
 have n1:(a != a)=false:=by simp
 have n2:(a != 0)=true:=by rw[bne_iff_ne];exact hne
 have n3:(a==a)=true:=by simp
 clear hne
 go_enter Tryz.func10,Tryz.ntmps10
 go_wp2_with fail
 refine (HH1.out _).mono ?_
 rintro e w1 ⟨hb1,rfl⟩
 have HB1:=hide hb1
 clear hb1
 go_wp2_with fail
 refine (HH2.out _).mono ?_
 rintro e w2 ⟨hb2,rfl⟩
 have HB2:=hide (HB1.out.trans (hb2.mono HB1.out.size))
 clear hb2
 go_wp2_with fail
 refine (HH2.out _).mono ?_
 rintro e w3 ⟨hb3,rfl⟩
 have HB3:=hide (HB2.out.trans (hb3.mono HB2.out.size))
 clear hb3
 go_wp2_with fail
 refine (q9 [] _ _ _ 0 0 (by simp) (World.ownsRow_nil _ _ _ _) (World.ownsRow_nil _ _ _ _)).mono ?_
 rintro e w4 ⟨rfl,hb4⟩
 have HB4:=hide (HB3.out.trans (hb4.mono HB3.out.size))
 clear hb4
 go_wp2_with fail
 go_loop [10] (fun i=>i=.int .i64 0) (fun _=>0)
 case atStart=>exact rfl
 case round =>
  subst hrel
  go_wp2_with fail
  refine (q9 [] _ _ _ 0 0 (by simp) (World.ownsRow_nil _ _ _ _) (World.ownsRow_nil _ _ _ _)).mono ?_
  rintro e w5 ⟨rfl,hb5⟩
  have HB5:=hide (HB4.out.trans (hb5.mono HB4.out.size))
  clear hb5
  go_wp2_with fail
  go_ret
  exact ⟨rfl,HB5.out⟩
theorem Pk (s:ByteArray)(hs:s.size<=maxLen)(w:World)(its:List Wd.It)(hx:Wd.aF s.data.toList=.ok its) :
  Calls Tryz.prog 10 #[.string s] w fun e w'=>e=.returned (.bool true)/\Below w.heap.size w w':=by
 have H1:=fun w=>DI s w hs
 have H2:=fun w=>DJ s w hs
 rw[hx] at H1 H2
 have hlen:(cO (bT its) 6).length<=30000:=Nj its (jP hx)
 have HH1:Hid (∀w,Calls Tryz.prog 23 #[.string s] w fun e w'=>Below w.heap.size w w'/\∃ao cc,e=.returned (.tuple #[.slice ao (cO (bT its) 6).length cc,.int .i64 0])/\w'.ownsRow w.heap.size 51 2 (.slice ao (cO (bT its) 6).length cc) (cO (bT its) 6).length ((cO (bT its) 6).flatMap edV)):=hide H1
 have HH2:Hid (∀w,Calls Tryz.prog 24 #[.string s] w fun e w'=>Below w.heap.size w w'/\∃ao cc,e=.returned (.tuple #[.slice ao (cO (bT its) 6).length cc,.int .i64 0])/\w'.ownsRow w.heap.size 51 2 (.slice ao (cO (bT its) 6).length cc) (cO (bT its) 6).length ((cO (bT its) 6).flatMap edV)):=hide H2
 clear H1 H2 hx
 generalize cO (bT its) 6=R at *
 go_enter Tryz.func10,Tryz.ntmps10
 go_wp2_with fail
 refine (HH1.out _).mono ?_
 rintro e w1 ⟨hb1,a0,c0,rfl,ho0⟩
 have HB1:=hide hb1
 have HO0:=hide ho0
 clear hb1 ho0
 go_wp2_with fail
 refine (HH2.out _).mono ?_
 rintro e w2 ⟨hb2,a1,eH,rfl,ho1⟩
 have HB2:=hide (HB1.out.trans (hb2.mono HB1.out.size))
 have sJ:=hide (own_below HO0.out hb2)
 have HO1:=hide ho1
 have HS2:Hid (w1.heap.size<=w2.heap.size):=hb2.size
 clear hb2 ho1
 go_wp2_with fail
 refine (HH2.out _).mono ?_
 rintro e w3 ⟨hb3,a2,cap2,rfl,ho2⟩
 have HB3:=hide (HB2.out.trans (hb3.mono HB2.out.size))
 have nN:=hide (own_below sJ.out hb3)
 have nO:=hide (own_below HO1.out hb3)
 have HO2:=hide ho2
 clear hb3 ho2
 go_wp2_with fail
 refine (q9 R _ _ _ _ _ (by omega) nO.out nN.out).mono ?_
 rintro e w4 ⟨rfl,hb4⟩
 have HB4:=hide (HB3.out.trans (hb4.mono HB3.out.size))
 have oU:=hide (own_below nN.out hb4)
 have jw:=hide (own_below nO.out hb4)
 have oV:=hide (own_below HO2.out hb4)
 have tV:Hid (∀g,(Value.slice a1 R.length eH).ownBlock=some g->(Value.slice a0 R.length c0).ownBlock≠some g):=hide (fun g h1 h2=>by have:=(fQ HO0.out h2).2;have:=(fQ HO1.out h1).1;omega)
 have kW:Hid (∀g,(Value.slice a1 R.length eH).ownBlock=some g->(Value.slice a2 R.length cap2).ownBlock≠some g):=hide (fun g h1 h2=>by have:=(fQ HO2.out h2).1;have:=(fQ HO1.out h1).2;omega)
 have HWG:Hid (∀g,(Value.slice a1 R.length eH).ownBlock=some g->w.heap.size<=g):=hide (fun g h1=>by have:=HB1.out.size;have:=(fQ HO1.out h1).1;omega)
 clear hb4
 have HXL:Hid ((R.flatMap edV).length=R.length*2):=jw.out.1
 go_wp2_with fail
 by_cases h0:R.length=0
 ·have hR:R=[]:=List.length_eq_zero_iff.1 h0
  subst hR
  go_loop [10] (fun i=>i=.int .i64 0) (fun _=>0)
  case atStart=>exact rfl
  case round =>
   subst hrel
   go_wp2_with fail
   refine (q9 [] _ _ _ _ _ (by simp) oV.out oU.out).mono ?_
   rintro e w5 ⟨rfl,hb5⟩
   have HB5:=hide (HB4.out.trans (hb5.mono HB4.out.size))
   clear hb5
   go_wp2_with fail
   go_ret
   exact ⟨rfl,HB5.out⟩
 obtain ⟨g1,hg1⟩:∃g1,a1=some ⟨g1,0,none⟩:=by
  rcases jw.out.2 with ⟨e1,e2⟩ | ⟨g,cap,cur,e1,_⟩
  ·exact absurd e2 h0
  ·injection e1 with e1;exact ⟨g,e1⟩
 subst hg1
 have hg0:=tV.out g1 rfl
 have oQ:=kW.out g1 rfl
 have hwg:=HWG.out g1 rfl
 have hcp:eH<=maxLen/\R.length<=eH:=by
  rcases jw.out.2 with ⟨e1,e2⟩ | ⟨g,cap,cur,e1,_,_,e2,e3,_⟩
  ·exact absurd e2 h0
  ·injection e1 with _ _ e1;subst e1;exact ⟨e3,e2⟩
 have HG0:=hide hg0
 have Aw:=hide oQ
 unfold maxLen at hcp
 clear hg0 oQ tV kW HWG h0
 go_loopw [10] (fun a wr=>∃(k:Nat) (xs:List Value),k<=R.length/\a=.int .i64 k/\xs.length=R.length*2/\wr.ownsRow w1.heap.size 51 2 (.slice (some ⟨g1,0,none⟩) R.length eH) R.length xs/\(∀b,b≠g1->wr.heap[b]?=w4.heap[b]?)/\Below w.heap.size w wr) (fun a _=>R.length-(intOf a).toNat)
 case atStart=>exact ⟨0,R.flatMap edV,Nat.zero_le _,rfl,HXL.out,jw.out,fun _ _=>rfl,HB4.out⟩
 case round =>
  obtain ⟨k,xs,hk,rfl,hxl,hO,hbl,hbe⟩:=hrel
  have HO:=hide hO
  have HBL:=hide hbl
  have HB:=hide hbe
  have qP:=hide hxl
  by_cases hlt:k<R.length
  ·have hx0:k*2<xs.length:=by omega
   have d0:=(HO.out.cellAt (k*2) (by omega)).trans (List.getElem?_eq_getElem hx0)
   have f0:=HO.out.frozenAt (k*2)
   generalize xs[k*2]=u0 at *
   have hx1:k*2+1<xs.length:=by omega
   have d1:=(HO.out.cellAt (k*2+1) (by omega)).trans (List.getElem?_eq_getElem hx1)
   have f1:=HO.out.frozenAt (k*2+1)
   generalize xs[k*2+1]=u1 at *
   clear hxl hO hbl hbe
   go_wp2_with fail
   refine ⟨⟨k+1,((xs.set (k*2) (.int .i64 9)).set (k*2+1) (.int .i64 9)),by omega,by go_num,by simp[qP.out],((HO.out.stored _ _).1.stored _ _).1,?_,((HB.out.setCell (p:=⟨g1,k*2,none⟩) hwg _).setCell (p:=⟨g1,k*2+1,none⟩) hwg _)⟩,by simp[intOf];omega⟩
   intro b hb
   rw[heap_setCell_other _ _ _ _ hb,heap_setCell_other _ _ _ _ hb];exact HBL.out b hb
  ·clear hxl hO hbl hbe
   go_wp2_with fail
   refine (q9 R _ _ _ _ _ (by omega) (Ba oV.out g1 HBL.out Aw.out) (Ba oU.out g1 HBL.out HG0.out)).mono ?_
   rintro e w5 ⟨rfl,hb5⟩
   have HB5:=hide (HB.out.trans (hb5.mono HB.out.size))
   clear hb5
   go_wp2_with fail
   go_ret
   exact ⟨rfl,HB5.out⟩
theorem K5 (s:ByteArray)(hs:s.size<=maxLen)(w:World) :
  Calls Tryz.prog 10 #[.string s] w fun e w'=>e=.returned (.bool true)/\Below w.heap.size w w':=by
 cases hx:Wd.aF s.data.toList with
 | error x=>exact Pj s hs w x hx (Wd.jf hx)
 | ok its=>exact Pk s hs w its hx
end
section
open Mc
def jm (its:List Wd.It)(K I P:Int):Ma->List UInt8->Bool
 | S,_::o::r=>if bad (command its S 1 0 (Wd.bt o)).1=true then (jl (command its S 1 0 (Wd.bt o)).1==K&&((works S 0).there&&(((works S 0).item:Int)==I&&((works S 0).pos:Int)==P))) else jm its K I P (command its S 1 0 (Wd.bt o)).2 r
 | _,_=>false
theorem Nk (its:List Wd.It)(K I P:Int)(S:Ma)(s:ByteArray)(k:Nat)(h:k+1<s.size):jm its K I P S (s.data.toList.drop k)=if bad (command its S 1 0 ((s[k+1].toNat:Nat):Int)).1=true then (jl (command its S 1 0 ((s[k+1].toNat:Nat):Int)).1==K&&((works S 0).there&&(((works S 0).item:Int)==I&&((works S 0).pos:Int)==P))) else jm its K I P (command its S 1 0 ((s[k+1].toNat:Nat):Int)).2 (s.data.toList.drop (k+2)):=by
 rw[Wd.drop_cons s k (by omega),Wd.drop_cons s (k+1) h];rfl
theorem Pm (its:List Wd.It)(K I P:Int)(S:Ma)(s:ByteArray)(k:Nat)(h:¬k+1<s.size):jm its K I P S (s.data.toList.drop k)=false:=by
 have hl:(s.data.toList.drop k).length<=1:=by rw[List.length_drop,Wd.aI];omega
 generalize s.data.toList.drop k=l at hl
 match l,hl with
 | [],_=>rfl
 | [_],_=>rfl
theorem Q0 (w:World)(its:List Wd.It)(ai:Option Addr)(ci:Nat)(s:ByteArray)(K I P:Int)(hf:bH its)(hs:s.size<=200000)(hci:its.length<=ci/\ci<=maxLen)(hit:0<its.length->∃g,ai=some ⟨g,0,none⟩/\Blk w g (its.length*2) (itF its))(hsc:aX (1:Nat) s.data.toList=true)(Gs:jm its K I P (aM its) s.data.toList=true) :
  Calls Tryz.prog 49 #[.slice ai its.length ci,.string s,.agg #[.int .i64 K,.int .i64 I,.int .i64 P]] w fun e w'=>e=.returned (.bool true)/\Below w.heap.size w w':=by
 have HF:=hide hf
 have hl8:=hf.len
 have HR0:=hide (Row.new w #[.int .i64 K,.int .i64 I,.int .i64 P] 23)
 have HB0:=hide (aD w (.cells #[.int .i64 K,.int .i64 I,.int .i64 P] 23))
 have AB:=hide (Eh (w.alloc (.cells #[.int .i64 K,.int .i64 I,.int .i64 P] 23)) its 1 ai ci (by decide) (by omega) hci (fun h=>by obtain ⟨g,h1,h2⟩:=hit h;exact ⟨g,h1,h2.below ((Below.refl _ _).alloc (Nat.le_refl _) _)⟩))
 have HE:=hide Gs
 have HSC:=hide hsc
 clear hf hci hit hsc Gs
 go_enter Tryz.func49,Tryz.ntmps49
 go_wp2_with fail
 have hw1:(w.alloc (.cells #[.int .i64 K,.int .i64 I,.int .i64 P] 23)).heap.size=w.heap.size+1:=by simp
 rw[hw1] at AB
 go_at_call 38
 refine AB.out.mono ?_
 rintro e w3 ⟨b,A,rfl,e1,e2,e3,hm3,hb3⟩
 have HB3:=hide (ak HB0.out (by rw[hw1];exact hb3))
 have HR3:=hide (HR0.out.below (by rw[hw1];exact hb3))
 have HAL:Hid (A.lt its.length b w3.heap.size):=hide ⟨hm3.root.lt,hm3.au.lt,hm3.at_.lt,fun h g e=>by obtain ⟨g',k1,k2,_⟩:=hm3.items h;rw[k1] at e;cases e;exact k2.lt,e3⟩
 have HM3:=hide hm3
 have GI:w.heap.size+1<=w3.heap.size:=by have:=hb3.size;omega
 clear hm3 hb3 e1 e2 e3 AB HB0 HR0 hw1
 generalize hBB:w3.heap.size=B at *
 have HBB:=hide hBB
 clear hBB
 go_wp2
 go_loopw [8] (fun c wr=>∃(k:Nat) (S:Ma),k<=s.size/\c=.int .i64 k/\DM wr (w.heap.size+1) b A its 1 S/\Mc.Inv its 1 S/\aX (1:Nat) (s.data.toList.drop k)=true/\jm its K I P S (s.data.toList.drop k)=true/\Row wr w.heap.size #[.int .i64 K,.int .i64 I,.int .i64 P] 23/\Below w.heap.size w wr/\B<=wr.heap.size) (fun c _=>s.size-(intOf c).toNat)
 case atStart=>exact ⟨0,aM its,by omega,rfl,HM3.out,Inv.aM its 1,HSC.out,HE.out,HR3.out,HB3.out,by rw[HBB.out];exact Nat.le_refl _⟩
 case round =>
  obtain ⟨k,S,hk,rfl,hm,hinv,nP,hen,hrow,hbe,hbs⟩:=hrel
  have HM:=hide hm
  have HI:=hide hinv
  have HSR:=hide nP
  have HEN:=hide hen
  have HRW:=hide hrow
  have HB:=hide hbe
  clear hm hinv nP hen hrow hbe HM3 HB3 HSC HBB HE HR3
  by_cases hlt:k+1<s.size
  ·obtain ⟨q1,q2,q3,q4⟩:=yF hlt HSR.out
   have HQ4:=hide q4
   have hcl:=qX its S 1 0 ((s[k+1].toNat:Nat):Int)
   have hbo:(0:Int)<=((s[k+1].toNat:Nat):Int)/\((s[k+1].toNat:Nat):Int)<=255:=by have:=s[k+1].toNat_lt;omega
   have HIN:=hide (HI.out.command HF.out.ok 0 (by decide) ((s[k+1].toNat:Nat):Int))
   have AC:=hide (fun W (hW:DM W (w.heap.size+1) b A its 1 S)=>Cv W (w.heap.size+1) b A its 1 S 0 ((s[k+1].toNat:Nat):Int) hW HF.out.ok HI.out (by decide) (by decide) hbo.1 hbo.2 q3)
   have AW:=hide (fun W (hW:DM W (w.heap.size+1) b A its 1 S)=>Eb W (w.heap.size+1) b A its 1 S 0 hW (by decide) (by decide))
   have HEC:=hide (Nk its K I P S s k hlt)
   rw[HEN.out] at HEC
   clear q1 q2 q3 q4 HEN
   generalize command its S 1 0 ((s[k+1].toNat:Nat):Int)=R at *
   obtain ⟨L,S'⟩:=R
   simp only at hcl HIN HEC AC
   generalize works S 0=f at *
   have ABd:=hide (fun W=>Fs L W hcl.1 hcl.2)
   have AKd:=hide (fun W=>E9 L W hcl.1 hcl.2)
   cases hbad:bad L
   ·rw[hbad] at ABd HEC
    have HEX:=hide (show jm its K I P S' (s.data.toList.drop (k+2))=true by have:=HEC.out;simp at this;exact this)
    clear HEC AKd
    go_wp2_with fail
    go_at_call 81
    refine (AW.out _ HM.out).mono ?_
    rintro e w1 ⟨rfl,hb1⟩
    have HM1:=hide (HM.out.below hb1)
    have HR1:=hide (HRW.out.below hb1)
    have HB1:=hide (ak HB.out hb1)
    have qV:B<=w1.heap.size:=Nat.le_trans hbs hb1.size
    clear hb1
    go_wp2_with (first|(refine wpList_store_row rfl 108 _ _ rfl w1.heap.size (frV f).toArray rfl rfl 108 #[.bool false,.int .i64 0,.int .i64 0,.int .i64 0] ?_ Tryz.iFrame rfl (by simp[frV,Value.oneCell']) ?_;(exact (Row.new w1 #[.bool false,.int .i64 0,.int .i64 0,.int .i64 0] 108).raw);rw[World.setRow_alloc_new];have HM2:=hide (HM1.out.alloc (.cells (frV f).toArray 108));have HF2:=hide (Row.new w1 (frV f).toArray 108);have HR2:=hide (HR1.out.alloc (.cells (frV f).toArray 108));have HB2:=hide (HB1.out.alloc HB1.out.size (.cells (frV f).toArray 108));have hg2:B<=w1.heap.size:=qV;generalize w1.alloc (.cells (frV f).toArray 108)=w2 at *;have hs2:w1.heap.size<w2.heap.size:=HF2.out.lt))
    go_at_call 39
    refine (AC.out _ HM2.out).mono ?_
    rintro e w4 ⟨rfl,hm4,hk4⟩
    have HM4:=hide hm4
    have HK4:=hide hk4
    have HDB:=hide (Kp.dm HM2.out hk4 (by omega))
    have HR4:=hide (HR2.out.same (HDB.out.block _ (by omega)))
    have HB4:=hide (HB2.out.trans (HDB.out.mono (by omega)))
    have qW:B<=w4.heap.size:=by have:=hk4.size;omega
    have HF4:=hide (HF2.out.same (hk4.same _ hs2 (fun e=>by have:=HAL.out.g1;omega) (fun e=>by have:=HAL.out.g3;omega) (fun e=>by have:=HAL.out.a2 _ e;omega)))
    clear hm4 hk4
    go_wp2_with (first|(go_at_call 40;refine (ABd.out _).mono ?_;rintro e w' ⟨rfl,hww⟩;obtain rfl:=hww.symm;clear hww))
    go_round
    case measure=>simp[intOf];omega
    case rel=>exact ⟨k+2,S',by omega,by go_num,HM4.out,HIN.out,HQ4.out,HEX.out,HR4.out,HB4.out,qW⟩
   ·rw[hbad] at ABd HEC
    obtain ⟨x1,x2,x3,x4⟩:jl L=K/\f.there=true/\(f.item:Int)=I/\(f.pos:Int)=P:=by
     have:=HEC.out
     simp at this
     exact this
    rw[x1] at AKd
    have HX2:=hide x2
    have HX3:=hide x3
    have HX4:=hide x4
    clear HEC x1 x2 x3 x4
    go_wp2_with fail
    go_at_call 81
    refine (AW.out _ HM.out).mono ?_
    rintro e w1 ⟨rfl,hb1⟩
    have HM1:=hide (HM.out.below hb1)
    have HR1:=hide (HRW.out.below hb1)
    have HB1:=hide (ak HB.out hb1)
    have qV:B<=w1.heap.size:=Nat.le_trans hbs hb1.size
    clear hb1
    go_wp2_with (first|(refine wpList_store_row rfl 108 _ _ rfl w1.heap.size (frV f).toArray rfl rfl 108 #[.bool false,.int .i64 0,.int .i64 0,.int .i64 0] ?_ Tryz.iFrame rfl (by simp[frV,Value.oneCell']) ?_;(exact (Row.new w1 #[.bool false,.int .i64 0,.int .i64 0,.int .i64 0] 108).raw);rw[World.setRow_alloc_new];have HM2:=hide (HM1.out.alloc (.cells (frV f).toArray 108));have HF2:=hide (Row.new w1 (frV f).toArray 108);have HR2:=hide (HR1.out.alloc (.cells (frV f).toArray 108));have HB2:=hide (HB1.out.alloc HB1.out.size (.cells (frV f).toArray 108));have hg2:B<=w1.heap.size:=qV;generalize w1.alloc (.cells (frV f).toArray 108)=w2 at *;have hs2:w1.heap.size<w2.heap.size:=HF2.out.lt))
    go_at_call 39
    refine (AC.out _ HM2.out).mono ?_
    rintro e w4 ⟨rfl,hm4,hk4⟩
    have HM4:=hide hm4
    have HK4:=hide hk4
    have HDB:=hide (Kp.dm HM2.out hk4 (by omega))
    have HR4:=hide (HR2.out.same (HDB.out.block _ (by omega)))
    have HB4:=hide (HB2.out.trans (HDB.out.mono (by omega)))
    have qW:B<=w4.heap.size:=by have:=hk4.size;omega
    have HF4:=hide (HF2.out.same (hk4.same _ hs2 (fun e=>by have:=HAL.out.g1;omega) (fun e=>by have:=HAL.out.g3;omega) (fun e=>by have:=HAL.out.a2 _ e;omega)))
    clear hm4 hk4
    have y0:w4.cell? ⟨w.heap.size,0,none⟩=some (.int .i64 K):=HR4.out.cell 0 rfl
    have y1:w4.cell? ⟨w.heap.size,1,none⟩=some (.int .i64 I):=HR4.out.cell 1 rfl
    have y2:w4.cell? ⟨w.heap.size,2,none⟩=some (.int .i64 P):=HR4.out.cell 2 rfl
    have f0:w4.cell? ⟨w1.heap.size,0,none⟩=some (.bool true):=by rw[<-HX2.out];exact HF4.out.cell 0 rfl
    have f1:w4.cell? ⟨w1.heap.size,1,none⟩=some (.int .i64 I):=by rw[<-HX3.out];exact HF4.out.cell 1 rfl
    have f2:w4.cell? ⟨w1.heap.size,2,none⟩=some (.int .i64 P):=by rw[<-HX4.out];exact HF4.out.cell 2 rfl
    have bK:(K==K)=true:=by simp
    have bI:(I==I)=true:=by simp
    have bP:(P==P)=true:=by simp
    go_wp2_with (first|(go_at_call 67;refine (AKd.out _).mono ?_;rintro e w' ⟨rfl,hww⟩;obtain rfl:=hww.symm;clear hww)|(go_at_call 40;refine (ABd.out _).mono ?_;rintro e w' ⟨rfl,hww⟩;obtain rfl:=hww.symm;clear hww))
    go_ret
    exact ⟨rfl,HB4.out⟩
  ·exfalso
   have:=HEN.out
   rw[Pm its K I P S s k hlt] at this;cases this
end
section
open Mc
def gy (L:List Rc):Nat->Nat->List Rc
 | 0,_=>[]
 | n+1,i=>if i=0 then [] else match L[i]? with|none=>[]|some r=>r::gy L n r.fr
theorem pU (L:List Rc)(n:Nat):gy L n 0=[]:=by cases n<;>simp[gy]
theorem uE {L:List Rc}{n i:Nat}{r:Rc}(hi:i≠0)(h:L[i]?=some r):gy L (n+1) i=r::gy L n r.fr:=by simp[gy,hi,h]
theorem Cg {L:List Rc}(hb:∀(j:Nat) (r:Rc),0<j->L[j]?=some r->r.fr<j):∀(n m i:Nat),i<=n->i<=m->gy L n i=gy L m i:=by
 intro n
 induction n with
 | zero =>
  intro m i hi hm
  have:i=0:=by omega
  subst this
  rw[pU,pU]
 | succ n ih =>
  intro m i hi hm
  by_cases h0:i=0
  ·subst h0;rw[pU,pU]
  ·cases m with
   | zero=>omega
   | succ m =>
    cases hq:L[i]? with
    | none=>simp[gy,h0,hq]
    | some r =>
     rw[uE h0 hq,uE h0 hq,ih m r.fr (by have:=hb i r (by omega) hq;omega) (by have:=hb i r (by omega) hq;omega)]
theorem xQ (L:List Rc):∀n i,(gy L n i).length<=n:=by
 intro n
 induction n with
 | zero=>intro i;simp[gy]
 | succ n ih =>
  intro i
  unfold gy
  split
  ·simp
  ·split
   ·simp
   ·simp;exact ih _
def bV (L:List Rc)(i:Nat):List Rc:=(gy L i i).reverse
theorem iP.fr {hd:Bool}{b:List UInt8}{L:List Rc}(h:iP hd b L):∀(j:Nat) (r:Rc),0<j->L[j]?=some r->r.fr<j:=by
 obtain ⟨i,f,h1,h2⟩:=h
 intro j r hj hr
 obtain ⟨q,a,_⟩:=h1.back j r hj hr
 exact a
theorem FJ (r:Rc):∃b0 b1 b2 b3 b4 b5:Bool,rcV r=[.int .i64 (r.p:Int),.bool b0,.bool b1,.bool b2,.bool b3,.bool b4,.bool b5,.bool r.off,.int .i64 (r.fr:Int),.bool r.comma]:=⟨_,_,_,_,_,_,rfl⟩
theorem Pn (w:World)(L:List Rc)(v:Value)(b last:Nat)(hfr:∀(j:Nat) (r:Rc),0<j->L[j]?=some r->r.fr<j)(hl:L.length<=100000)(hlast:last<L.length)(hv:w.ownsRow b 130 10 v L.length (L.flatMap rcV)) :
  Calls Tryz.prog 79 #[v,.int .i64 last] w fun e w'=>∃ao cc,e=.returned (.slice ao (bV L last).length cc)/\w'.ownsRow w.heap.size 130 10 (.slice ao (bV L last).length cc) (bV L last).length ((bV L last).flatMap rcV)/\Below w.heap.size w w':=by
 have HO:=hide hv
 obtain ⟨ga,ca,hva⟩:=bq hv
 subst hva
 have HFR:=hide hfr
 clear hv hfr
 obtain ⟨i0,wY,hz0,hz1,hz2⟩:=info_parts Tryz.infoReached
 have HO0:Hid ((w.alloc (.cells #[] 130)).ownsRow w.heap.size 130 10 (.slice (some ⟨w.heap.size,0,none⟩) 0 0) ([]:List Rc).length (([]:List Rc).flatMap rcV)):=hide ⟨rfl,.inr ⟨w.heap.size,0,#[],rfl,Nat.le_refl _,heap_alloc_last _ _,Nat.le_refl _,by decide,rfl,rfl⟩⟩
 have HB0:=hide (aD w (.cells #[] 130))
 go_enter Tryz.func79,Tryz.ntmps79
 go_wp2
 generalize w.alloc (.cells #[] 130)=W at *
 go_loopw [5,6] (fun a c wr=>∃(i:Nat) (X:List Rc),i<=last/\c=.int .i64 i/\X++gy L i i=gy L last last/\wr.ownsRow w.heap.size 130 10 a X.length (X.flatMap rcV)/\Below w.heap.size w wr) (fun _ c _=>(intOf c).toNat)
 case atStart=>exact ⟨last,[],Nat.le_refl _,rfl,rfl,HO0.out,HB0.out⟩
 case round =>
  clear HO0 HB0
  obtain ⟨i,X,hi,rfl,hX,hx,hb⟩:=hrel
  have HX:=hide hX
  have HW:=hide hx
  have HB:=hide hb
  clear hX hx hb
  obtain ⟨ao,cc,hv⟩:=bq HW.out
  subst hv
  have hXl:X.length<=100000:=by have h1:=xQ L last last;rw[<-HX.out,List.length_append] at h1;omega
  have hsz:=HB.out.size
  have hiL:(i:Int)<(L.length:Int):=by omega
  by_cases hi0:i=0
  ·subst hi0
   rw[pU,List.append_nil] at HX
   rw[show ((0:Nat):Int)=0 from rfl]
   go_wp2
   have Ht:Hid ((wr.alloc (.cells #[] 130)).ownsRow wr.heap.size 130 10 (.slice (some ⟨wr.heap.size,0,none⟩) 0 0) ([]:List Rc).length (([]:List Rc).flatMap rcV)):=hide ⟨rfl,.inr ⟨wr.heap.size,0,#[],rfl,Nat.le_refl _,heap_alloc_last _ _,Nat.le_refl _,by decide,rfl,rfl⟩⟩
   have tX:=hide (aD wr (.cells #[] 130))
   have HWP:Hid (bV L last=X.reverse):=hide (by unfold bV;rw[HX.out])
   have HW0:=hide HW.out
   have hb0:=HB.out
   have HB0:=hide hb0
   clear hb0 HB HW
   have hnw:wr.heap.size<(wr.alloc (.cells #[] 130)).heap.size:=by simp
   generalize hw0:wr=w0 at *
   clear hw0
   go_loopw [7,8] (fun a c wr=>∃(k:Nat) (Y:List Rc),k<=X.length/\c=.int .i64 ((k:Int)-1)/\Y=(X.drop k).reverse/\wr.ownsRow w0.heap.size 130 10 a Y.length (Y.flatMap rcV)/\Below w0.heap.size w0 wr) (fun _ c _=>(intOf c+1).toNat)
   case atStart=>exact ⟨X.length,[],Nat.le_refl _,rfl,by simp,Ht.out,tX.out⟩
   case round =>
    clear Ht tX hnw
    obtain ⟨k,Y,hk,rfl,hY,hy,hb⟩:=hrel
    have HY:=hide hY
    have HW:=hide hy
    have HB:=hide hb
    clear hY hy hb
    obtain ⟨ao2,cc2,hv⟩:=bq HW.out
    subst hv
    have hYl:Y.length<=100000:=by rw[HY.out];simp;omega
    have hsz2:=HB.out.size
    by_cases hk0:k=0
    ·subst hk0
     rw[List.drop_zero] at HY
     go_wp2
     go_ret
     exact ⟨ao2,cc2,by rw[HWP.out,<-HY.out];rfl,by rw[HWP.out,<-HY.out];exact iH HW.out hsz,ak HB0.out HB.out⟩
    ·obtain ⟨j,hj⟩:∃j,k=j+1:=⟨k-1,by omega⟩
     subst hj
     obtain ⟨r,hr⟩:∃r,X[j]?=some r:=⟨X[j],List.getElem?_eq_getElem (by omega)⟩
     obtain ⟨g1,c1,hv1,_,hg1,_,_,hr1⟩:=fI nC HW0.out hr
     cases hv1
     obtain ⟨b0,b1,b2,b3,b4,b5,hrc⟩:=FJ r
     have HRC:=hide hrc
     have HRG:Hid (wr.rangeAt g1 (j*10) [.int .i64 (r.p:Int),.bool b0,.bool b1,.bool b2,.bool b3,.bool b4,.bool b5,.bool r.off,.int .i64 (r.fr:Int),.bool r.comma]):=hide (by rw[<-hrc];exact fun j u hj=>by rw[HB.out.cell (by exact hg1)];exact hr1 j u hj)
     have HDR:Hid ((X.drop j).reverse=(X.drop (j+1)).reverse++[r]):=hide (by
      have e:=List.drop_eq_getElem_cons (l:=X) (i:=j) (by omega)
      have e2:X[j]'(by omega)=r:=by have:=List.getElem?_eq_getElem (l:=X) (i:=j) (by omega);rw[hr] at this;injection this with this;exact this.symm
      rw[e,e2,List.reverse_cons])
     have hj0:(0:Int)<=(j:Int):=by omega
     have hje:((j+1:Nat):Int)-1=(j:Int):=by omega
     have hjn:(j:Int)<(X.length:Int):=by omega
     rw[hje]
     clear hr hr1 hrc hje
     go_wp2_with (first|(at_builtin;refine gP (f:=rcV) nC rfl _ _ 125 rfl w0.heap.size 130 i0 _ 32 Tryz.underlying125 wY hz0 hz1 hz2 rfl (by decide) _ Y r rfl ⟨_,0,none⟩ rfl ?_ ?_ ?_ ?_ ?_ ?_ ?_;(exact HW.out.alloc _);(rw[HRC.out];exact eZ _ _ _);(rw[HRC.out];intro x hx;simp at hx;rcases hx with rfl|rfl|rfl|rfl|rfl|rfl|rfl|rfl|rfl|rfl<;>rfl);(unfold maxLen;omega);(omega);(simp;omega);intro ao' cc' w5 hown' aT bn hat';have HO5:=hide hown';have gG:=hide aT;clear hown' aT bn hat')|(refine wpList_load_mid rfl 130 _ rfl _ _ rfl [.int .i64 (r.p:Int),.bool b0,.bool b1,.bool b2,.bool b3,.bool b4,.bool b5,.bool r.off,.int .i64 (r.fr:Int),.bool r.comma] _ ?_ Tryz.underlying130 rfl Tryz.iReached ?_;(exact HRG.out)))
     go_round
     case measure=>simp[intOf]
     case rel=>exact ⟨j,Y++[r],by omega,by go_num,by rw[HDR.out,<-HY.out],HO5.out,(HB.out.alloc hsz2 _).trans gG.out⟩
  ·obtain ⟨r,hr⟩:∃r,L[i]?=some r:=⟨L[i],List.getElem?_eq_getElem (by omega)⟩
   obtain ⟨g1,c1,hv1,_,hg1,_,_,hr1⟩:=fI nC HO.out hr
   cases hv1
   have Wl:=HFR.out i r (by omega) hr
   obtain ⟨b0,b1,b2,b3,b4,b5,hrc⟩:=FJ r
   have HRC:=hide hrc
   have HRG:Hid (wr.rangeAt g1 (i*10) [.int .i64 (r.p:Int),.bool b0,.bool b1,.bool b2,.bool b3,.bool b4,.bool b5,.bool r.off,.int .i64 (r.fr:Int),.bool r.comma]):=hide (by rw[<-hrc];exact fun j u hj=>by rw[HB.out.cell (by exact hg1)];exact hr1 j u hj)
   have HST:Hid (gy L i i=r::gy L r.fr r.fr):=by
    apply hide
    cases i with
    | zero=>exact absurd rfl hi0
    | succ n=>rw[uE hi0 hr,Cg HFR.out n r.fr r.fr (by omega) (Nat.le_refl _)]
   have HY8:Hid (∀W',Below w.heap.size w W'->W'.cell? ⟨g1,i*10+8,none⟩=some (.int .i64 (r.fr:Int))):=hide (fun W' h=>by rw[h.cell (by exact hg1)];exact hr1 8 _ rfl)
   have hi1:(0:Int)<(i:Int):=by omega
   clear hr hr1 hrc
   go_wp2_with (first|(at_builtin;refine gP (f:=rcV) nC rfl _ _ 125 rfl w.heap.size 130 i0 _ 32 Tryz.underlying125 wY hz0 hz1 hz2 rfl (by decide) _ X r rfl ⟨_,0,none⟩ rfl ?_ ?_ ?_ ?_ ?_ ?_ ?_;(exact HW.out.alloc _);(rw[HRC.out];exact eZ _ _ _);(rw[HRC.out];intro x hx;simp at hx;rcases hx with rfl|rfl|rfl|rfl|rfl|rfl|rfl|rfl|rfl|rfl<;>rfl);(unfold maxLen;omega);(omega);(simp;omega);intro ao' cc' w5 hown' aT bn hat';have HO5:=hide hown';have gG:=hide aT;have y8:=HY8.out w5 ((HB.out.alloc hsz _).trans aT);clear hown' aT bn hat')|(refine wpList_load_mid rfl 130 _ rfl _ _ rfl [.int .i64 (r.p:Int),.bool b0,.bool b1,.bool b2,.bool b3,.bool b4,.bool b5,.bool r.off,.int .i64 (r.fr:Int),.bool r.comma] _ ?_ Tryz.underlying130 rfl Tryz.iReached ?_;(exact HRG.out)))
   go_round
   case measure=>simp[intOf];omega
   case rel=>exact ⟨r.fr,X++[r],by omega,rfl,by rw[List.append_assoc,List.singleton_append,<-HST.out];exact HX.out,HO5.out,(HB.out.alloc hsz _).trans gG.out⟩
end
namespace Wd
def Hu:St->List UInt8->Option St
 | st,[]=>some st
 | st,c::r=>match aR st (bt c) with
  | none=>none
  | some st'=>Hu st' r
def okB (b:List UInt8):Prop:=∀c∈b,up (bt c)=false/\bt c≠123/\bt c≠125
theorem okB.app {a b:List UInt8}(ha:okB a)(hb:okB b):okB (a++b):=by
 intro c hc
 rcases List.mem_append.1 hc with h|h
 ·exact ha c h
 ·exact hb c h
structure Wv (b:List UInt8):Prop where
 run:∀n,Hu ⟨2,[],n⟩ b=some ⟨2,[],n⟩
 ok:okB b
def WvI (x:UInt8×List UInt8):Prop:=(x.1=116\/x.1=104)/\Wv x.2
theorem WvI.raw {x:UInt8×List UInt8}(h:WvI x):dJ x:=by
 refine ⟨?_,fun c hc=>⟨(h.2.ok c hc).2.1,(h.2.ok c hc).2.2⟩⟩
 rcases h.1 with e|e
 ·exact Or.inl (by rw[e];rfl)
 ·exact Or.inr (Or.inl (by rw[e];rfl))
theorem WvI.low {x:UInt8×List UInt8}(h:WvI x):up (bt x.1)=false:=by
 rcases h.1 with e|e<;>rw[e]<;>decide
def b8 (n:Nat):UInt8:=UInt8.ofNat n
theorem oL {n:Nat}(h:n<256):bt (b8 n)=n:=by
 unfold bt b8
 rw[UInt8.toNat_ofNat',Nat.mod_eq_of_lt (by omega)]
theorem ok1 {c:UInt8}(h1:up (bt c)=false/\bt c≠123/\bt c≠125):okB [c]:=by
 intro x hx
 simp only[List.mem_cons,List.not_mem_nil,or_false] at hx
 rw[hx];exact h1
structure Pt where
 handler:Bool
 steps:List Int
theorem Wv.nil:Wv []:=⟨fun n=>rfl,fun c hc=>by cases hc⟩
end Wd
end Go.Proofs.YtecmfdkhcffpmaaGreat
