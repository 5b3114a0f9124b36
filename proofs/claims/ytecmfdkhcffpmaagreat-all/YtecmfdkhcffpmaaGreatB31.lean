/- ProgP, ProgQ, ProgR. -/
import Derived.Test.YtecmfdkhcffpmaaGreatB30
import Derived.Test.YtecmfdkhcffpmaaGreatB16
namespace Go.Proofs.YtecmfdkhcffpmaaGreat
open Go.RowKit
set_option linter.unusedVariables false
set_option linter.unusedSimpArgs false
set_option linter.unusedSectionVars false
set_option maxHeartbeats 8000000
set_option maxRecDepth 100000
section
open Mc
theorem EU {w:World}{g:Nat}{t:TypeId}{its:List Wd.It}{lg:Nat->Nat}{x:Cp}(h:Row w g (pcV its lg x).toArray t):w.rangeAt g 6 [.bool (x.t.held.testBit 0),.bool (x.t.held.testBit 1),.bool (x.t.held.testBit 2),.bool (x.t.held.testBit 3),.bool (x.t.held.testBit 4),.bool (x.t.held.testBit 5)]:=by
 refine h.range 6 _ fun j v hj=>?_
 have hl:j<6:=(List.getElem?_eq_some_iff.1 hj).1
 rw[<-hj]
 rcases j with _|_|_|_|_|_|j<;>first|rfl|omega
theorem TP (its:List Wd.It)(lg:Nat->Nat):fpV its lg aH false=[.bool false,.int .i64 0,.bool false,.string ⟨#[]⟩,.slice none 0 0,.int .i64 0,.bool false,.bool false,.bool false,.bool false,.bool false,.bool false,.bool false]:=rfl
theorem KJ (w:World)(b:Nat)(ai:Option Addr)(ci:Nat)(lg:Nat->Nat)(its:List Wd.It)(S:Ma)(c:Nat)(h:PM w b ai ci lg its S)(hi:Inv its 3 S)(hc:c<3)(hh:(S.cp c).t.there=false\/(S.cp c).h.there=true\/0<(S.cp c).t.held\/(S.cp c).off=true) :
  Calls Tryz.prog 117 #[.pointer (some ⟨b,0,none⟩),.int .i64 c] w fun e w'=>e=.returned (.int .u8 95)/\PM w' b ai ci lg its S/\KP b ai w w':=by
 have HM:=hide h
 have HRC:=hide (nG h c hc)
 have sP:=(hi.t c hc).held
 have AE:=hide (fun W=>yK (S.cp c).t.held W sP)
 have HELD:=hide (fun W (hW:Row W w.heap.size (pcV its lg (S.cp c)).toArray 95)=>EU hW)
 obtain ⟨uh,huh,hdh⟩:=Tryz.uHeldR
 have HUH:=hide huh
 have HDH:=hide hdh
 clear huh hdh
 obtain ⟨up,hup,hdp⟩:=Tryz.uProcR
 have HUP:=hide hup
 have HDP:=hide hdp
 clear hup hdp
 have hz:0<(S.cp c).t.held↔((S.cp c).t.held==0)=false:=by simp;omega
 rw[hz] at hh
 clear h hi sP hz
 generalize (S.cp c).t.held.testBit 0=t0 at *
 generalize (S.cp c).t.held.testBit 1=t1 at *
 generalize (S.cp c).t.held.testBit 2=t2 at *
 generalize (S.cp c).t.held.testBit 3=t3 at *
 generalize (S.cp c).t.held.testBit 4=t4 at *
 generalize (S.cp c).t.held.testBit 5=t5 at *
 generalize ((S.cp c).t.held==0)=ez at *
 cases h1:(S.cp c).t.there<;>cases h2:(S.cp c).h.there<;>cases h3:(S.cp c).off<;>cases ez
 all_goals first
  | (exfalso;simp[h1,h2,h3] at hh;done)
  | (
   have HH:=hide (And.intro h1 (And.intro h2 h3))
   clear h1 h2 h3 hh
   go_enter Tryz.func117,Tryz.ntmps117
   go_wp2_with (first|(go_at_call 131;refine (AE.out _).mono ?_;rintro e w2 ⟨rfl,hb2⟩;have HR2:=hide (HR1.out.below hb2);have HB2:=hide (ak HB1.out hb2);have q2:=lD HR2.out;rw[HH.out.1,HH.out.2.1,HH.out.2.2] at q2;have q20:=q2.1;have q21:=q2.2.1;have q25:=q2.2.2.1;have Ur:=q2.2.2.2.1;have wS:=q2.2.2.2.2;clear q2 hb2)|(refine wpList_load_mid rfl 89 _ rfl _ _ rfl [.bool t0,.bool t1,.bool t2,.bool t3,.bool t4,.bool t5] uh ?_ HUH.out HDH.out Tryz.iHeld ?_;(exact HELD.out _ HR1.out))|(refine wpList_store_row rfl 95 _ _ rfl w.heap.size (pcV its lg (S.cp c)).toArray rfl rfl 95 #[.bool false,.int .i64 0,.bool false,.string ⟨#[]⟩,.slice none 0 0,.int .i64 0,.bool false,.bool false,.bool false,.bool false,.bool false,.bool false,.bool false,.bool false,.int .i64 0,.bool false,.string ⟨#[]⟩,.slice none 0 0,.int .i64 0,.bool false,.bool false,.bool false,.bool false,.bool false,.bool false,.bool false] ?_ (Tryz.iProcA _ _ _) rfl (qz _ _ _) ?_;(exact (Row.new w #[.bool false,.int .i64 0,.bool false,.string ⟨#[]⟩,.slice none 0 0,.int .i64 0,.bool false,.bool false,.bool false,.bool false,.bool false,.bool false,.bool false,.bool false,.int .i64 0,.bool false,.string ⟨#[]⟩,.slice none 0 0,.int .i64 0,.bool false,.bool false,.bool false,.bool false,.bool false,.bool false,.bool false] 95).raw);rw[World.setRow_alloc_new];have HR1:=hide (Row.new w (pcV its lg (S.cp c)).toArray 95);have HB1:=hide (aD w (.cells (pcV its lg (S.cp c)).toArray 95));generalize w.alloc (.cells (pcV its lg (S.cp c)).toArray 95)=w1 at *;have q1:=lD HR1.out;rw[HH.out.1,HH.out.2.1,HH.out.2.2] at q1;have q10:=q1.1;have q11:=q1.2.1;have q15:=q1.2.2.1;have o6:=q1.2.2.2.1;have o7:=q1.2.2.2.2;clear q1)|(refine wpList_load_mid rfl 95 _ rfl _ _ rfl (pcV its lg (S.cp c)) up ?_ HUP.out HDP.out (Tryz.iProcV _ _ _) ?_;(exact HRC.out)))
   go_ret
   exact ⟨rfl,HM.out.below HB2.out,KP.of HB2.out⟩)
theorem JA (w:World)(b:Nat)(ai:Option Addr)(ci:Nat)(lg:Nat->Nat)(its:List Wd.It)(S:Ma)(c:Nat)(h:PM w b ai ci lg its S)(ho:bf its)(hi:Inv its 3 S)(hc:c<3)(h1:(S.cp c).t.there=true)(h2:(S.cp c).h.there=false)(h4:(S.cp c).t.held=0)(h3:(S.cp c).off=false) :
  Calls Tryz.prog 117 #[.pointer (some ⟨b,0,none⟩),.int .i64 c] w fun e w'=>e=.returned (.int .u8 112)/\PM w' b ai ci lg its (av (bA (aQ S (S.cp c).t.item true) (S.cp c).t.item (S.cp c).t.pos) c {((bA (aQ S (S.cp c).t.item true) (S.cp c).t.item (S.cp c).t.pos).cp c) with t:=aH,off:=false})/\KP b ai w w':=by
 have HM:=hide h
 have HRC:=hide (nG h c hc)
 have sP:=(hi.t c hc).held
 have AE:=hide (fun W=>yK (S.cp c).t.held W sP)
 have HELD:=hide (fun W (hW:Row W w.heap.size (pcV its lg (S.cp c)).toArray 95)=>EU hW)
 obtain ⟨uh,huh,hdh⟩:=Tryz.uHeldR
 have HUH:=hide huh
 have HDH:=hide hdh
 clear huh hdh
 obtain ⟨up,hup,hdp⟩:=Tryz.uProcR
 have HUP:=hide hup
 have HDP:=hide hdp
 clear hup hdp
 have hit:=(hi.t c hc).item h1
 have hpp:(S.cp c).t.pos<=20000:=by have:=(hi.t c hc).pos h1;have:=ho.body _ hit;omega
 have AM:=hide (fun W (hW:PM W b ai ci lg its S)=>BG W b ai ci lg its S (S.cp c).t.item (S.cp c).t.pos hW hit hpp)
 have he:((S.cp c).t.held==0)=true:=by simp[h4]
 rw[he] at AE
 have HH:=hide (And.intro h1 (And.intro h2 h3))
 have oZ:(0:Int)<=(c:Int):=by omega
 have o5:(c:Int)<3:=by omega
 clear h hi ho sP he h1 h2 h3 h4
 generalize (S.cp c).t.held.testBit 0=t0 at *
 generalize (S.cp c).t.held.testBit 1=t1 at *
 generalize (S.cp c).t.held.testBit 2=t2 at *
 generalize (S.cp c).t.held.testBit 3=t3 at *
 generalize (S.cp c).t.held.testBit 4=t4 at *
 generalize (S.cp c).t.held.testBit 5=t5 at *
 go_enter Tryz.func117,Tryz.ntmps117
 go_wp2_with (first|(refine wpList_store_mid rfl 93 _ _ rfl _ _ #[.bool false,.int .i64 0,.bool false,.string ⟨#[]⟩,.slice none 0 0,.int .i64 0,.bool false,.bool false,.bool false,.bool false,.bool false,.bool false,.bool false] rfl rfl ?_ Tryz.iFrameP (by simp[Value.oneCell']) ?_;(exact HM3.out.root.there _ 13 (by omega));have HM4:Hid (PM (w3.setCells b (1+c*26) #[.bool false,.int .i64 0,.bool false,.string ⟨#[]⟩,.slice none 0 0,.int .i64 0,.bool false,.bool false,.bool false,.bool false,.bool false,.bool false,.bool false].toList) b ai ci lg its _):=hide (HM3.out.fK c hc aH false);have HK4:=hide (HK3.out.sets (1+c*26) #[.bool false,.int .i64 0,.bool false,.string ⟨#[]⟩,.slice none 0 0,.int .i64 0,.bool false,.bool false,.bool false,.bool false,.bool false,.bool false,.bool false].toList);generalize w3.setCells b (1+c*26) #[.bool false,.int .i64 0,.bool false,.string ⟨#[]⟩,.slice none 0 0,.int .i64 0,.bool false,.bool false,.bool false,.bool false,.bool false,.bool false,.bool false].toList=w4 at *)|(go_at_call 138;refine (AM.out _ (HM.out.below HB2.out)).mono ?_;rintro e w3 ⟨rfl,hm3,hk3⟩;have HM3:=hide hm3;have HK3:=hide ((KP.of HB2.out).trans hk3);clear hm3 hk3)|(go_at_call 131;refine (AE.out _).mono ?_;rintro e w2 ⟨rfl,hb2⟩;have HR2:=hide (HR1.out.below hb2);have HB2:=hide (ak HB1.out hb2);have q2:=lD HR2.out;rw[HH.out.1,HH.out.2.1,HH.out.2.2] at q2;have q20:=q2.1;have q21:=q2.2.1;have q25:=q2.2.2.1;have Ur:=q2.2.2.2.1;have wS:=q2.2.2.2.2;clear q2 hb2)|(refine wpList_load_mid rfl 89 _ rfl _ _ rfl [.bool t0,.bool t1,.bool t2,.bool t3,.bool t4,.bool t5] uh ?_ HUH.out HDH.out Tryz.iHeld ?_;(exact HELD.out _ HR1.out))|(refine wpList_store_row rfl 95 _ _ rfl w.heap.size (pcV its lg (S.cp c)).toArray rfl rfl 95 #[.bool false,.int .i64 0,.bool false,.string ⟨#[]⟩,.slice none 0 0,.int .i64 0,.bool false,.bool false,.bool false,.bool false,.bool false,.bool false,.bool false,.bool false,.int .i64 0,.bool false,.string ⟨#[]⟩,.slice none 0 0,.int .i64 0,.bool false,.bool false,.bool false,.bool false,.bool false,.bool false,.bool false] ?_ (Tryz.iProcA _ _ _) rfl (qz _ _ _) ?_;(exact (Row.new w #[.bool false,.int .i64 0,.bool false,.string ⟨#[]⟩,.slice none 0 0,.int .i64 0,.bool false,.bool false,.bool false,.bool false,.bool false,.bool false,.bool false,.bool false,.int .i64 0,.bool false,.string ⟨#[]⟩,.slice none 0 0,.int .i64 0,.bool false,.bool false,.bool false,.bool false,.bool false,.bool false,.bool false] 95).raw);rw[World.setRow_alloc_new];have HR1:=hide (Row.new w (pcV its lg (S.cp c)).toArray 95);have HB1:=hide (aD w (.cells (pcV its lg (S.cp c)).toArray 95));generalize w.alloc (.cells (pcV its lg (S.cp c)).toArray 95)=w1 at *;have q1:=lD HR1.out;rw[HH.out.1,HH.out.2.1,HH.out.2.2] at q1;have q10:=q1.1;have q11:=q1.2.1;have q15:=q1.2.2.1;have o6:=q1.2.2.2.1;have o7:=q1.2.2.2.2;clear q1)|(refine wpList_load_mid rfl 95 _ rfl _ _ rfl (pcV its lg (S.cp c)) up ?_ HUP.out HDP.out (Tryz.iProcV _ _ _) ?_;(exact HRC.out)))
 go_ret
 exact ⟨rfl,HM4.out,HK4.out⟩
end
section
open Mc
theorem Ow {hd:Bool}{b:List UInt8}{p h:Nat}{comma:Bool}(hh:hd=true):(aS hd b p h true comma).1.2.2=true:=by
 unfold aS
 split
 ·rename_i hf
  have h60:¬(atB b p=60\/atB b p=62):=by
   intro hc
   unfold aB at hf
   rw[if_neg (by omega),if_neg (by omega),if_neg (by omega),if_pos hc,if_pos hh] at hf
   cases hf
  unfold aG
  repeat' split
  all_goals first|rfl|(exfalso;omega)
 ·rfl
theorem RV {hd:Bool}{b:List UInt8}{p h:Nat}{off comma:Bool}(hL:(aS hd b p h off comma).2=122):(aS hd b p h off comma).1.1=p+1:=by
 unfold aS at hL ⊢
 split at hL
 ·rename_i hf
  rw[if_pos hf]
  simp only at hL
  simp[aG,hL]
 ·rename_i hf
  exfalso
  simp only at hL
  unfold aB at hL
  repeat' split at hL
  all_goals (first|omega|cases hL)
theorem Ox (w:World)(b:Nat)(ai:Option Addr)(ci:Nat)(lg:Nat->Nat)(its:List Wd.It)(S:Ma)(c:Nat)(comma:Bool)(h:PM w b ai ci lg its S)(ho:bf its)(hi:Inv its 3 S)(hfi:bH its)(hs:Ats its 3 S)(hc:c<3) :
  Calls Tryz.prog 116 #[.pointer (some ⟨b,0,none⟩),.int .i64 c,.bool comma] w fun e w'=>e=.returned (.int .u8 (stepM its S c comma).1)/\PM w' b ai ci lg its (stepM its S c comma).2/\KP b ai w w':=by
 unfold stepM
 simp only
 by_cases hth:(works S c).there=false
 ·rw[if_pos hth];exact Mw w b ai ci lg its S c comma h hc hth
 rw[if_neg hth]
 have o8:(works S c).there=true:=by simpa using hth
 by_cases hH:bY its S c (works S c)≠0
 ·rw[if_pos hH];exact Mx w b ai ci lg its S c comma h ho hi hc o8 _ rfl hH
 rw[if_neg hH]
 have hH':bY its S c (works S c)=0:=by omega
 have hfr:=iB hi c hc
 obtain ⟨⟨⟨np,nh,no⟩,L⟩,hst⟩:∃r,aS (isH its (works S c).item) (ah its (works S c).item) (works S c).pos (works S c).held (aJ S c) comma=r:=⟨_,rfl⟩
 rw[hst]
 simp only
 by_cases h122:L=122
 ·subst h122
  rw[if_pos rfl]
  have hnp:=RV (by rw[hst])
  rw[hst] at hnp
  simp only at hnp
  have:=hfr.pos o8
  have:=ho.body _ (hfr.item o8)
  exact RU w b ai ci lg its S c comma h ho hi hfi hs hc o8 hH' np nh no hst (by omega)
 rw[if_neg h122]
 by_cases fw:L=101
 ·subst fw
  rw[if_pos rfl]
  exact Ot w b ai ci lg its S c comma h ho hi hfi hs hc o8 hH' np nh no hst
 rw[if_neg fw]
 refine Qq w b ai ci lg its S c comma h ho hi hfi hs hc o8 hH' np nh no L hst ⟨h122,fw⟩ fun hhd=>?_
 have hk:isH its (works S c).item=true:=by rw[hfr.kind o8];exact hhd
 have ho':aJ S c=true:=by unfold aJ;rw[if_pos hhd]
 have:=Ow (hd:=isH its (works S c).item) (b:=ah its (works S c).item) (p:=(works S c).pos) (h:=(works S c).held) (comma:=comma) hk
 rw[<-ho',hst] at this
 exact this.trans ho'
theorem KL (S:Ma)(c n:Nat)(x:Cp)(v:Bool):aQ (av S c x) n v=av (aQ S n v) c x:=rfl
theorem MB (w:World)(b:Nat)(ai:Option Addr)(ci:Nat)(lg:Nat->Nat)(its:List Wd.It)(S:Ma)(c n:Nat)(h:PM w b ai ci lg its S)(hi:Inv its 3 S)(hc:c<3)(hn:n<=255) :
  Calls Tryz.prog 118 #[.pointer (some ⟨b,0,none⟩),.int .i64 c,.int .i64 n] w fun e w'=>e=.returned (.int .u8 (comes its S c n).1)/\PM w' b ai ci lg its (comes its S c n).2/\KP b ai w w':=by
 by_cases hlt:n<its.length
 ·cases hk:isH its n with
  | true =>
   by_cases hh:(S.cp c).h.there=true\/(S.cp c).off=true
   ·have e:comes its S c n=(95,S):=by
     unfold comes
     rcases hh with e|e
     ·rw[if_pos (Or.inr e)]
     ·by_cases e2:its.length<=n\/(S.cp c).h.there=true
      ·rw[if_pos e2]
      ·rw[if_neg e2,if_pos hk,if_pos e]
    rw[e]
    exact BH w b ai ci lg its S c n h hlt hk _ _ (Jz w b ai ci lg its S c n h hc hlt hh)
   ·simp only[not_or,Bool.not_eq_true] at hh
    have e:comes its S c n=(104,av S c {(S.cp c) with h:=⟨true,n,0,0⟩}):=by
     unfold comes
     rw[if_neg (by simp only[not_or,Bool.not_eq_true];exact ⟨by omega,hh.1⟩),if_pos hk,if_neg (by simp[hh.2])]
    rw[e]
    exact BH w b ai ci lg its S c n h hlt hk _ _ (IZ w b ai ci lg its S c n h hc hlt hk hh.1 hh.2)
  | false =>
   by_cases hh:(S.cp c).t.there=true\/(S.cp c).h.there=true\/S.rd n=false
   ·have e:comes its S c n=(95,S):=by
     unfold comes
     by_cases e2:its.length<=n\/(S.cp c).h.there=true
     ·rw[if_pos e2]
     ·rw[if_neg e2,if_neg (by simp[hk]),if_pos (by rcases hh with e|e|e<;>simp_all)]
    rw[e]
    exact Qs w b ai ci lg its S c n h hc hlt hk hh
   ·simp only[not_or,Bool.not_eq_true,Bool.not_eq_false] at hh
    have hoff:(S.cp c).off=false:=by
     cases e:(S.cp c).off
     ·rfl
     ·have:=hi.off c hc e;rw[hh.1] at this;cases this
    have e:comes its S c n=(116,aQ (av S c {(S.cp c) with t:=⟨true,n,S.pl n,0⟩,off:=false}) n false):=by
     unfold comes
     rw[if_neg (by simp only[not_or,Bool.not_eq_true];exact ⟨by omega,hh.2.1⟩),if_neg (by simp[hk]),if_neg (by simp[hh.1,hh.2.2]),KL]
     have e2:({(S.cp c) with t:=⟨true,n,S.pl n,0⟩}:Cp)={(S.cp c) with t:=⟨true,n,S.pl n,0⟩,off:=false}:=by rw[<-hoff]
     rw[e2]
    rw[e]
    exact Ov w b ai ci lg its S c n h hc hlt hk hh.1 hh.2.1 hh.2.2
 ·have e:comes its S c n=(95,S):=by unfold comes;rw[if_pos (Or.inl (by omega))]
  rw[e]
  exact Ou w b ai ci lg its S c n h hlt hn
theorem Qt (w:World)(b:Nat)(ai:Option Addr)(ci:Nat)(lg:Nat->Nat)(its:List Wd.It)(S:Ma)(c:Nat)(h:PM w b ai ci lg its S)(ho:bf its)(hi:Inv its 3 S)(hc:c<3) :
  Calls Tryz.prog 117 #[.pointer (some ⟨b,0,none⟩),.int .i64 c] w fun e w'=>e=.returned (.int .u8 (command its S 3 c 112).1)/\PM w' b ai ci lg its (command its S 3 c 112).2/\KP b ai w w':=by
 by_cases hh:(S.cp c).t.there=false\/(S.cp c).h.there=true\/0<(S.cp c).t.held\/(S.cp c).off=true
 ·have e:command its S 3 c 112=(95,S):=by
   unfold command
   rw[if_neg (by decide),if_neg (by simp),if_pos hh]
  rw[e]
  exact KJ w b ai ci lg its S c h hi hc hh
 ·have e:command its S 3 c 112=(112,leaves S c (S.cp c).t.pos):=by
   unfold command
   rw[if_neg (by decide),if_neg (by simp),if_neg hh]
  simp only[not_or,Bool.not_eq_true,Bool.not_eq_false] at hh
  have e2:leaves S c (S.cp c).t.pos=av (bA (aQ S (S.cp c).t.item true) (S.cp c).t.item (S.cp c).t.pos) c {((bA (aQ S (S.cp c).t.item true) (S.cp c).t.item (S.cp c).t.pos).cp c) with t:=aH,off:=false}:=by
   unfold leaves
   congr 1
   show ({S.cp c with t:=aH}:Cp)={S.cp c with t:=aH,off:=false}
   rw[<-hh.2.2.2]
  rw[e,e2]
  exact JA w b ai ci lg its S c h ho hi hc hh.1 hh.2.1 (by omega) hh.2.2.2
theorem Tk (w:World)(b:Nat)(ai:Option Addr)(ci:Nat)(lg:Nat->Nat)(its:List Wd.It)(S:Ma)(c:Nat)(what:Int)(h:PM w b ai ci lg its S)(ho:bf its)(hi:Inv its 3 S)(hfi:bH its)(hs:Ats its 3 S)(hr:Mc.Rest 3 S)(hc:c<3)(hw:gJ what=true) :
  Calls Tryz.prog 90 #[.pointer (some ⟨b,0,none⟩),.int .i64 c,.int .u8 what] w fun e w'=>e=.returned (.int .u8 (command its S 3 c what).1)/\PM w' b ai ci lg its (command its S 3 c what).2/\KP b ai w w':=by
 have oZ:(0:Int)<=(c:Int):=by omega
 have o5:(c:Int)<3:=by omega
 by_cases h46:what=46\/what=44
 ·have e:command its S 3 c what=stepM its S c (what==44):=by
   unfold command
   rw[if_pos h46,vB hfi hi hs hr c hc]
   congr 1
  rw[e]
  have AS:=hide (Ox w b ai ci lg its S c (what==44) h ho hi hfi hs hc)
  clear h hi hs hr e hfi ho hw
  rcases h46 with rfl|rfl
  all_goals (
   go_enter Tryz.func90,Tryz.ntmps90
   go_wp2_with (first|(go_at_call 116;refine (AS.out).mono ?_;rintro e w1 ⟨rfl,hm1,hk1⟩;have HM1:=hide hm1;have HK1:=hide hk1;clear hm1 hk1))
   go_ret
   exact ⟨rfl,HM1.out,HK1.out⟩)
 by_cases h112:what=112
 ·subst h112
  have AS:=hide (Qt w b ai ci lg its S c h ho hi hc)
  generalize command its S 3 c 112=R at *
  clear h hi hs hr hfi ho hw h46
  go_enter Tryz.func90,Tryz.ntmps90
  go_wp2_with (first|(go_at_call 117;refine (AS.out).mono ?_;rintro e w1 ⟨rfl,hm1,hk1⟩;have HM1:=hide hm1;have HK1:=hide hk1;clear hm1 hk1))
  go_ret
  exact ⟨rfl,HM1.out,HK1.out⟩
 ·have e:command its S 3 c what=comes its S c (what-48).toNat:=by unfold command;rw[if_neg h46,if_pos h112]
  have hd:48<=what/\what<=55:=by
   unfold gJ at hw
   simp at hw;omega
  rw[e]
  obtain ⟨n,hn⟩:∃n:Nat,what=(n:Int)+48:=⟨(what-48).toNat,by omega⟩
  subst hn
  have e3:((n:Int)+48-48).toNat=n:=by omega
  rw[e3]
  have AS:=hide (MB w b ai ci lg its S c n h hi hc (by omega))
  generalize comes its S c n=R at *
  have hw:IntKind.i64.wrap ((n:Int)+48-48)=(n:Int):=by rw[IntKind.wrap_i64];omega
  have t46:((n:Int)+48==46)=false:=by simp;omega
  have t44:((n:Int)+48==44)=false:=by simp;omega
  have Uk:((n:Int)+48==112)=false:=by simp;omega
  clear h hi hs hr hfi ho h46 h112 e e3
  go_enter Tryz.func90,Tryz.ntmps90
  go_wp2_with (first|(go_at_call 118;refine (AS.out).mono ?_;rintro e w1 ⟨rfl,hm1,hk1⟩;have HM1:=hide hm1;have HK1:=hide hk1;clear hm1 hk1))
  go_ret
  exact ⟨rfl,HM1.out,HK1.out⟩
theorem MC (L:Int)(w:World)(h0:0<=L)(h1:L<=255) :
  Calls Tryz.prog 91 #[.int .u8 L] w fun e w'=>e=.returned (.bool (bad L))/\w'=w:=by
 have HB:Hid (bad L=(L==68||L==85||L==83||L==69||L==73||L==87||L==82)):=hide rfl
 generalize bad L=B at *
 generalize hb1:(L==68)=x1 at *
 generalize hb2:(L==85)=x2 at *
 generalize hb3:(L==83)=x3 at *
 generalize hb4:(L==69)=x4 at *
 generalize hb5:(L==73)=x5 at *
 generalize hb6:(L==87)=x6 at *
 generalize hb7:(L==82)=x7 at *
 go_enter Tryz.func91,Tryz.ntmps91
 go_wp2
 all_goals (
  clear hb1 hb2 hb3 hb4 hb5 hb6 hb7
  go_ret
  exact ⟨bW (by rw[HB.out];simp_all),rfl⟩)
theorem KM (x:Int)(w:World)(h0:0<=x)(h1:x<=255) :
  Calls Tryz.prog 88 #[.int .u8 x] w fun e w'=>e=.returned (.bool (gJ x))/\w'=w:=by
 have HB:Hid (gJ x=(x==46||x==44||x==112||(decide (48<=x)&&decide (x<=55)))):=hide rfl
 generalize gJ x=B at *
 go_enter Tryz.func88,Tryz.ntmps88
 go_wp2
 all_goals (
  go_ret
  exact ⟨bW (by rw[HB.out,Bool.eq_iff_iff];simp_all<;>omega),rfl⟩)
end
section
open Mc
theorem CK {w w':World}{B:Nat}{e:TypeId}{size n:Nat}{v:Value}{xs:List Value}{o:Obj}(ho:w.ownsRow B e size v n xs)(hB:B<=w.heap.size)(hg:(w.alloc o).grownBy w' v.ownBlock):∀j,j<B->w'.heap[j]?=w.heap[j]?:=fun j hj=>by
 rw[hg.block j (by simp;omega) (fun e=>by have:=(ho.lt j e.symm).1;omega),heap_alloc_old _ _ (by omega)]
theorem Tm {w w':World}{b B:Nat}{ai:Option Addr}{e:TypeId}{size:Nat}{v:Value}{n:Nat}{xs:List Value}(h:w.ownsRow B e size v n xs)(hb:b<B)(ha:∀g,ai=some ⟨g,0,none⟩->g<B)(hk:KP b ai w w'):w'.ownsRow B e size v n xs :=
 fO h fun g hg hl=>hk.same g hl (by omega) (fun e=>by have:=ha g e;omega)
theorem Fv {a b:List UInt8}(h:a=b):Ending.returned (.string (Wd.mkS a))=.returned (.string (Wd.mkS b)):=by rw[h]
theorem JB (its:List Wd.It)(S:Ma)(c:Nat)(what:Int):0<=(command its S 3 c what).1/\(command its S 3 c what).1<=255:=qX its S 3 c what
theorem Qu (w:World)(b:Nat)(ai:Option Addr)(ci:Nat)(lg:Nat->Nat)(its:List Wd.It)(S:Ma)(n:Nat)(t:ByteArray)(h:PM w b ai ci lg its S)(ho:bf its)(hi:Inv its 3 S)(hfi:bH its)(hs:Ats its 3 S)(hr:Mc.Rest 3 S)(hn:n<=3)(ht:t.size<=200000)(hsc:aX n t.data.toList=true)(hai:∀g,ai=some ⟨g,0,none⟩->g<w.heap.size) :
  Calls Tryz.prog 61 #[.pointer (some ⟨b,0,none⟩),.string t] w fun e w'=>e=.returned (.string (Wd.mkS (cB its 3 S t.data.toList)))/\KQ w.heap.size b ai w w':=by
 generalize hT:cB its 3 S t.data.toList=T
 have HT:=hide hT
 have HM:=hide h
 have HI:=hide hi
 have HO:=hide ho
 have HF:=hide hfi
 have HS:=hide hs
 have HR:=hide hr
 have HSC:=hide hsc
 have HPB:=hide h.pb
 have HAI:=hide hai
 clear hT h hi ho hfi hs hr hsc hai
 obtain ⟨i0,hi0,hz0,hz1,hz2⟩:=info_parts Tryz.infoU8
 go_enter Tryz.func61,Tryz.ntmps61
 go_wp2
 have HM1:=hide (HM.out.alloc (.cells #[] 5))
 have HK1:=hide ((KQ.refl w.heap.size b ai w).bel (aD w (.cells #[] 5)) (Nat.le_refl _))
 have HOW:Hid ((w.alloc (.cells #[] 5)).ownsRow w.heap.size 5 1 (.slice (some ⟨w.heap.size,0,none⟩) 0 0) 0 []):=hide ⟨rfl,.inr ⟨w.heap.size,0,#[],rfl,Nat.le_refl _,heap_alloc_last _ _,by simp,Nat.zero_le _,rfl,rfl⟩⟩
 generalize hBB:w.heap.size=B at *
 go_loopw [5,6] (fun a c wr=>∃(k:Nat) (acc:List UInt8) (S':Ma),k<=t.size/\c=.int .i64 k/\acc.length<=k/\wr.ownsRow B 5 1 a acc.length (Wd.aZ acc)/\PM wr b ai ci lg its S'/\Mc.Inv its 3 S'/\Ats its 3 S'/\Mc.Rest 3 S'/\aX n (t.data.toList.drop k)=true/\T=acc++cB its 3 S' (t.data.toList.drop k)/\KQ B b ai w wr/\B<=wr.heap.size) (fun _ c _=>t.size-(intOf c).toNat)
 case atStart=>exact ⟨0,[],S,by omega,rfl,by simp,HOW.out,HM1.out,HI.out,HS.out,HR.out,HSC.out,by rw[<-HT.out];rfl,HK1.out,by simp;omega⟩
 case round =>
  obtain ⟨k,acc,S',hk,rfl,hacc,hown,hm,hinv,GN,hrest,nP,htr,hkq,hbs⟩:=hrel
  have HOr:=hide hown
  have HMr:=hide hm
  have HIr:=hide hinv
  have HSr:=hide GN
  have HRr:=hide hrest
  have HSR:=hide nP
  have HTR:=hide htr
  have HKr:=hide hkq
  clear hown hm hinv GN hrest nP htr hkq HM1 HK1 HOW HSC
  by_cases hlt:k+1<t.size
  ·obtain ⟨q1,q2,q3,q4⟩:=yF hlt HSR.out
   have HQ4:=hide q4
   have hcl:=JB its S' (((t[k].toNat:Nat):Int)-48).toNat ((t[k+1].toNat:Nat):Int)
   have hbo:(0:Int)<=((t[k+1].toNat:Nat):Int)/\((t[k+1].toNat:Nat):Int)<=255:=by have:=t[k+1].toNat_lt;omega
   have hba:((t[k].toNat:Nat):Int)<=255:=by have:=t[k].toNat_lt;omega
   have hcast:((((t[k].toNat:Nat):Int)-48).toNat:Int)=((t[k].toNat:Nat):Int)-48:=by omega
   have hc3:(((t[k].toNat:Nat):Int)-48).toNat<3:=by omega
   have HIN:=hide (HIr.out.command HO.out _ hc3 ((t[k+1].toNat:Nat):Int))
   have HSN:=hide (HSr.out.command HF.out HIr.out _ hc3 ((t[k+1].toNat:Nat):Int))
   have HRN:=hide (HRr.out.command (its:=its) 3 _ hc3 ((t[k+1].toNat:Nat):Int))
   have AC:=hide (fun W (hW:PM W b ai ci lg its S')=>Tk W b ai ci lg its S' (((t[k].toNat:Nat):Int)-48).toNat ((t[k+1].toNat:Nat):Int) hW HO.out HIr.out HF.out HSr.out HRr.out hc3 q3)
   simp only[hcast] at AC
   have HTC:=hide (Ct its 3 S' t k hlt)
   have hw64:IntKind.i64.wrap (((t[k].toNat:Nat):Int)-48)=((t[k].toNat:Nat):Int)-48:=by rw[IntKind.wrap_i64];omega
   have hw0:IntKind.i64.wrap ((t[k].toNat:Nat):Int)=((t[k].toNat:Nat):Int):=by rw[IntKind.wrap_i64];omega
   have hwk:IntKind.i64.wrap ((k:Int)+1)=(k:Int)+1:=by rw[IntKind.wrap_i64];omega
   have hk1:(0:Int)<=(k:Int)+1:=by omega
   have hk2:(k:Int)+1<(t.size:Int):=by omega
   have hk3:(k:Int)<(t.size:Int):=by omega
   clear hcast q4
   generalize command its S' 3 (((t[k].toNat:Nat):Int)-48).toNat ((t[k+1].toNat:Nat):Int)=R at *
   obtain ⟨L,S2⟩:=R
   simp only at hcl HIN HSN HRN HTC AC
   go_wp2_with fail
   go_region_held3 (fun _=>True) (trivial) (first|(go_at_call 90;refine (AC.out _ HMr.out.drew).mono ?_;rintro e w4 ⟨rfl,hm4,hk4⟩))
   all_goals (
    have HM4:=hide hm4
    have HK4:=hide (((KP.refl b ai wr).drew).trans hk4)
    have HO4:=hide (Tm HOr.out HPB.out.b HAI.out HK4.out)
    have HKK:=hide (HKr.out.kp HK4.out hbs)
    have hs4:B<=w4.heap.size:=Nat.le_trans hbs HK4.out.below.size
    clear hm4 hk4 AC
    have AB:=hide (fun W=>MC L W hcl.1 hcl.2)
    cases hbad:bad L
    ·rw[hbad] at AB
     have HTN:Hid (T=(acc++[u8 L])++cB its 3 S2 (t.data.toList.drop (k+2))):=by apply hide;rw[HTR.out,HTC.out,hbad];simp
     go_wp2_with (first|(at_builtin;refine wpList_append_own _ rfl _ _ 63 rfl B 5 i0 (.int .u8 0) 1 1 Tryz.underlying63 hi0 hz0 hz1 hz2 rfl (by decide) _ _ _ rfl (HO4.out.alloc _) ⟨_,0,none⟩ 1 1 [.int .u8 L] rfl rfl (cell_one_new _ _ _) (fun x hx=>by simp at hx;subst hx;rfl) (by unfold maxLen;omega) (by omega) (by simp;omega) ?_;intro v' w5 hown' dI fU;have HG:=hide dI;have HW:=hide (vw hcl.1 hcl.2 hown');have hcv:=om HW.out;clear dI hown' fU)|(go_at_call 91;refine (AB.out _).mono ?_;rintro e w' ⟨rfl,hww⟩;obtain rfl:=hww.symm;clear hww))
     have HU:=hide (CK HO4.out hs4 HG.out)
     refine ⟨⟨k+2,acc++[u8 L],S2,by omega,by go_num,by simp;omega,HW.out,HM4.out.qI HPB.out HU.out,HIN.out,HSN.out,HRN.out,HQ4.out,HTN.out,HKK.out.trans ⟨(ko HG.out HO4.out).mono (Nat.zero_le _),fun j hj _ _=>HU.out j hj⟩,by have:=HG.out.size;simp at this;omega⟩,by simp[intOf];omega⟩
    ·rw[hbad] at AB
     have HTN:Hid (T=acc++[u8 L]):=by apply hide;rw[HTR.out,HTC.out,hbad];simp
     go_wp2_with (first|(at_builtin;refine wpList_append_own _ rfl _ _ 63 rfl B 5 i0 (.int .u8 0) 1 1 Tryz.underlying63 hi0 hz0 hz1 hz2 rfl (by decide) _ _ _ rfl (HO4.out.alloc _) ⟨_,0,none⟩ 1 1 [.int .u8 L] rfl rfl (cell_one_new _ _ _) (fun x hx=>by simp at hx;subst hx;rfl) (by unfold maxLen;omega) (by omega) (by simp;omega) ?_;intro v' w5 hown' dI fU;have HG:=hide dI;have HW:=hide (vw hcl.1 hcl.2 hown');have hcv:=om HW.out;clear dI hown' fU)|(go_at_call 91;refine (AB.out _).mono ?_;rintro e w' ⟨rfl,hww⟩;obtain rfl:=hww.symm;clear hww))
     go_ret
     have HU:=hide (CK HO4.out hs4 HG.out)
     exact ⟨Fv HTN.out.symm,by rw[hBB];exact HKK.out.trans ⟨(ko HG.out HO4.out).mono (Nat.zero_le _),fun j hj _ _=>HU.out j hj⟩⟩)
  ·have hcv:=om HOr.out
   have HTN:Hid (T=acc):=by apply hide;rw[HTR.out,Dn its 3 S' t k hlt];simp
   go_wp2
   go_ret
   exact ⟨Fv HTN.out.symm,by rw[hBB];exact HKr.out⟩
end
end Go.Proofs.YtecmfdkhcffpmaaGreat
