/- MacO, MacP. -/
import Derived.Test.YtecmfdkhcffpmaaGreatB19
import Derived.Test.YtecmfdkhcffpmaaGreatB16
import Derived.Test.YtecmfdkhcffpmaaGreatB15
namespace Go.Proofs.YtecmfdkhcffpmaaGreat
open Go.RowKit
set_option linter.unusedVariables false
set_option linter.unusedSimpArgs false
set_option linter.unusedSectionVars false
set_option maxHeartbeats 8000000
set_option maxRecDepth 100000
section
open Mc
theorem EK (w:World)(N b:Nat)(A:Ad)(its:List Wd.It)(n:Nat)(S:Ma)(c:Nat)(second:Bool)(h:DM w N b A its n S)(ho:bf its)(hi:Inv its n S)(hn:n<=3)(hc:c<n) :
  Calls Tryz.prog 62 #[.pointer (some ⟨b,0,none⟩),.int .i64 c,.bool second] w fun e w'=>e=.returned (.int .u8 (Mc.step its S n c second).1)/\DM w' N b A its n (Mc.step its S n c second).2/\Kp A w w':=by
 rcases hwk:works S c with ⟨th,fi,fp,fh⟩
 cases th with
 | false=>exact N7 w N b A its n S c second h hn hc fi fp fh hwk
 | true =>
  by_cases fw:atB (ah its fi) fp=101
  ·by_cases hb:0<fh\/((S.cp c).off&&!(S.cp c).h.there)=true
   ·exact SQ w N b A its n S c second h ho hi hn hc fi fp fh hwk fw hb
   ·exact SS w N b A its n S c second h ho hi hn hc fi fp fh hwk fw hb
  by_cases h43:atB (ah its fi) fp=43
  ·exact S9 w N b A its n S c second h ho hi hn hc fi fp fh hwk h43
  by_cases h122:atB (ah its fi) fp=122
  ·by_cases hb:(S.cp c).h.there=true\/0<fh\/((S.cp c).off&&!(S.cp c).h.there)=true
   ·exact SV w N b A its n S c second h ho hi hn hc fi fp fh hwk h122 hb
   ·exact SX w N b A its n S c second h ho hi hn hc fi fp fh hwk h122 hb
  by_cases iw:atB (ah its fi) fp=114
  ·cases hcl:clash its S n c ⟨true,fi,fp,fh⟩
   ·exact FP 114 (Or.inl rfl) w N b A its n S c second h ho hi hn hc fi fp fh hwk iw hcl
   ·exact SY 114 (Or.inl rfl) w N b A its n S c second h ho hi hn hc fi fp fh hwk iw hcl
  by_cases h119:atB (ah its fi) fp=119
  ·cases hcl:clash its S n c ⟨true,fi,fp,fh⟩
   ·exact FP 119 (Or.inr rfl) w N b A its n S c second h ho hi hn hc fi fp fh hwk h119 hcl
   ·exact SY 119 (Or.inr rfl) w N b A its n S c second h ho hi hn hc fi fp fh hwk h119 hcl
  exact N8 w N b A its n S c second h ho hi hn hc fi fp fh hwk fw h43 h122 iw h119
theorem N9 (w:World)(N b:Nat)(A:Ad)(its:List Wd.It)(n:Nat)(S:Ma)(c i:Nat)(h:DM w N b A its n S)(hn:n<=3)(hc:c<n)(hi:i<=255) :
  Calls Tryz.prog 63 #[.pointer (some ⟨b,0,none⟩),.int .i64 c,.int .i64 i] w fun e w'=>e=.returned (.int .u8 (comes its S c i).1)/\DM w' N b A its n (comes its S c i).2/\Kp A w w':=by
 have CA:=h.caps
 unfold maxLen at CA
 have HM:=hide h
 have r0:w.cell? ⟨b,0,none⟩=some (.slice A.ai its.length A.ci):=h.root.cell 0 (by omega)
 have r1:w.cell? ⟨b,1,none⟩=some (.slice (some ⟨A.g1,0,none⟩) n A.c1):=h.root.cell 1 (by omega)
 have q0:w.cell? ⟨A.g1,c*9,none⟩=some (.bool (S.cp c).t.there):=h.aC c 0 hc (by omega)
 have q4:w.cell? ⟨A.g1,c*9+4,none⟩=some (.bool (S.cp c).h.there):=h.aC c 4 hc (by omega)
 have q8:w.cell? ⟨A.g1,c*9+8,none⟩=some (.bool (S.cp c).off):=h.aC c 8 hc (by omega)
 by_cases hlt:i<its.length
 ·obtain ⟨g,hg,_,b0⟩:=h.bC i hlt
  rw[hg] at r0
  have HG:=hide hg
  clear hg
  cases hh:(S.cp c).h.there
  ·rw[hh] at q4
   cases hk:isH its i
   ·rw[hk] at b0
    obtain ⟨g2,hg2,hr,_⟩:=h.ready (by omega)
    have r2:w.cell? ⟨b,2,none⟩=some (.slice (some ⟨g2,0,none⟩) its.length A.c2):=by rw[h.root.cell 2 (by omega),<-hg2];rfl
    have p0:w.cell? ⟨g2,i,none⟩=some (.bool (S.rd i)):=hr.cell _ hlt
    have p1:w.frozen? ⟨g2,i,none⟩=false:=hr.frozen _
    cases ht:(S.cp c).t.there
    ·rw[ht] at q0
     cases hrd:S.rd i
     ·rw[hrd] at p0
      have e:comes its S c i=(95,S):=by simp[comes,hh,hk,ht,hrd,hlt]
      rw[e]
      clear e h hh hk ht hrd hr hg2
      go_enter Tryz.func63,Tryz.ntmps63
      go_wp2
      go_ret
      exact ⟨rfl,HM.out,Kp.refl A w⟩
     ·rw[hrd] at p0
      have e:comes its S c i=(116,av (aQ S i false) c {(S.cp c) with t:=⟨true,i,S.pl i,0⟩}):=by simp[comes,hh,hk,ht,hrd,hlt]
      rw[e]
      have HM1:=hide (h.Gg g2 hg2 i false)
      have HK1:=hide ((Kp.refl A w).set2 hg2 i (.bool false))
      clear e h hh hk ht hrd hr hg2
      go_enter Tryz.func63,Tryz.ntmps63
      go_wp2_with fail
      clear r0 r1 r2 q0 q4 q8 p0 p1 b0
      generalize w.setCell ⟨g2,i,none⟩ (.bool false)=W at *
      have r1:W.cell? ⟨b,1,none⟩=some (.slice (some ⟨A.g1,0,none⟩) n A.c1):=HM1.out.root.cell 1 (by omega)
      have r3:W.cell? ⟨b,3,none⟩=some (.slice (some ⟨A.g3,0,none⟩) its.length A.c3):=HM1.out.root.cell 3 (by omega)
      have p1:W.cell? ⟨A.g3,i,none⟩=some (.int .i64 (S.pl i:Int)):=HM1.out.at_.cell _ hlt
      obtain ⟨v0,q0⟩:∃v,W.cell? ⟨A.g1,c*9,none⟩=some v:=⟨_,HM1.out.aC c 0 hc (by omega)⟩
      obtain ⟨v1,q1⟩:∃v,W.cell? ⟨A.g1,c*9+1,none⟩=some v:=⟨_,HM1.out.aC c 1 hc (by omega)⟩
      obtain ⟨v2,q2⟩:∃v,W.cell? ⟨A.g1,c*9+2,none⟩=some v:=⟨_,HM1.out.aC c 2 hc (by omega)⟩
      obtain ⟨v3,q3⟩:∃v,W.cell? ⟨A.g1,c*9+3,none⟩=some v:=⟨_,HM1.out.aC c 3 hc (by omega)⟩
      have f0:W.frozen? ⟨A.g1,c*9,none⟩=false:=HM1.out.eD c 0
      have f1:W.frozen? ⟨A.g1,c*9+1,none⟩=false:=HM1.out.eD c 1
      have f2:W.frozen? ⟨A.g1,c*9+2,none⟩=false:=HM1.out.eD c 2
      have f3:W.frozen? ⟨A.g1,c*9+3,none⟩=false:=HM1.out.eD c 3
      go_region
      all_goals go_wp2
      all_goals (go_ret;exact ⟨rfl,(HM1.out.fK c ⟨true,i,S.pl i,0⟩).drew,(HK1.out.nI (c*9) (frV ⟨true,i,S.pl i,0⟩)).drew⟩)
    ·rw[ht] at q0
     have e:comes its S c i=(95,S):=by simp[comes,hh,hk,ht,hlt]
     rw[e]
     clear e h hh hk ht hr hg2
     go_enter Tryz.func63,Tryz.ntmps63
     go_wp2
     go_ret
     exact ⟨rfl,HM.out,Kp.refl A w⟩
   ·rw[hk] at b0
    cases hof:(S.cp c).off
    ·rw[hof] at q8
     have e:comes its S c i=(104,av S c {(S.cp c) with h:=⟨true,i,0,0⟩}):=by simp[comes,hh,hk,hof,hlt]
     rw[e]
     have q5:w.cell? ⟨A.g1,c*9+4+1,none⟩=some (.int .i64 ((S.cp c).h.item:Int)):=h.aC c 5 hc (by omega)
     have q6:w.cell? ⟨A.g1,c*9+4+2,none⟩=some (.int .i64 ((S.cp c).h.pos:Int)):=h.aC c 6 hc (by omega)
     have q7:w.cell? ⟨A.g1,c*9+4+3,none⟩=some (.int .i64 ((S.cp c).h.held:Int)):=h.aC c 7 hc (by omega)
     have f4:w.frozen? ⟨A.g1,c*9+4,none⟩=false:=h.eD c 4
     have f5:w.frozen? ⟨A.g1,c*9+4+1,none⟩=false:=h.eD c 5
     have f6:w.frozen? ⟨A.g1,c*9+4+2,none⟩=false:=h.eD c 6
     have f7:w.frozen? ⟨A.g1,c*9+4+3,none⟩=false:=h.eD c 7
     clear e h hh hk hof
     go_enter Tryz.func63,Tryz.ntmps63
     go_wp2
     go_ret
     exact ⟨rfl,HM.out.setH c ⟨true,i,0,0⟩,(Kp.refl A w).nI (c*9+4) (frV ⟨true,i,0,0⟩)⟩
    ·rw[hof] at q8
     have e:comes its S c i=(95,S):=by simp[comes,hh,hk,hof,hlt]
     rw[e]
     clear e h hh hk hof
     go_enter Tryz.func63,Tryz.ntmps63
     go_wp2
     go_ret
     exact ⟨rfl,HM.out,Kp.refl A w⟩
  ·rw[hh] at q4
   have e:comes its S c i=(95,S):=by simp[comes,hh]
   rw[e]
   clear e h hh
   go_enter Tryz.func63,Tryz.ntmps63
   go_wp2
   go_ret
   exact ⟨rfl,HM.out,Kp.refl A w⟩
 ·have e:comes its S c i=(95,S):=by simp only[comes];rw[if_pos (Or.inl (by omega))]
  rw[e]
  clear e h
  go_enter Tryz.func63,Tryz.ntmps63
  go_wp2
  go_ret
  exact ⟨rfl,HM.out,Kp.refl A w⟩
theorem DM.nG {w:World}{N b:Nat}{A:Ad}{its:List Wd.It}{n:Nat}{S:Ma}(h:DM w N b A its n S)(c:Nat)(hc:c<n):w.rangeAt A.g1 (c*9) [.bool (S.cp c).t.there,.int .i64 ((S.cp c).t.item:Int),.int .i64 ((S.cp c).t.pos:Int),.int .i64 ((S.cp c).t.held:Int),.bool (S.cp c).h.there,.int .i64 ((S.cp c).h.item:Int),.int .i64 ((S.cp c).h.pos:Int),.int .i64 ((S.cp c).h.held:Int),.bool (S.cp c).off]:=by
 refine h.au.range _ _ (by simp;omega) fun j hj=>?_
 simp at hj
 rw[vP S c j (by omega)]
 rcases j with _|_|_|_|_|_|_|_|_|j<;>first|rfl|omega
theorem Tryz.iCpu:(Tryz.prog.info? 110).map (·.size)=some 9:=by kernel_rfl
theorem Tryz.uCpu:∃d,Tryz.prog.underlying 110=some d/\d.isRow=true:=⟨_,Tryz.underlying110,rfl⟩
theorem r9 (a c:Bool)(d e f g h i:Int)(j:Bool):(#[Value.bool a,.int .i64 d,.int .i64 e,.int .i64 f,.bool c,.int .i64 g,.int .i64 h,.int .i64 i,.bool j]).all (·.oneCell')=true:=by simp[Value.oneCell']
theorem Cv (w:World)(N b:Nat)(A:Ad)(its:List Wd.It)(n:Nat)(S:Ma)(c:Nat)(what:Int)(h:DM w N b A its n S)(ho:bf its)(hi:Inv its n S)(hn:n<=3)(hc:c<n)(hw0:0<=what)(hw1:what<=255)(hwo:gJ what=true) :
  Calls Tryz.prog 39 #[.pointer (some ⟨b,0,none⟩),.int .i64 c,.int .u8 what] w fun e w'=>e=.returned (.int .u8 (command its S n c what).1)/\DM w' N b A its n (command its S n c what).2/\Kp A w w':=by
 have CA:=h.caps
 unfold maxLen at CA
 have HM:=hide h
 by_cases h46:what=46
 ·have e:command its S n c what=Mc.step its S n c false:=by simp[command,h46]
  rw[e]
  have AS:=hide (EK w N b A its n S c false h ho hi hn hc)
  subst h46
  clear e h
  generalize Mc.step its S n c false=r at *
  go_enter Tryz.func39,Tryz.ntmps39
  go_wp2_with (first|(go_at_call 62;refine AS.out.mono ?_;rintro e w2 ⟨rfl,hm2,hk2⟩))
  go_ret
  exact ⟨rfl,hm2,hk2⟩
 by_cases h44:what=44
 ·have e:command its S n c what=Mc.step its S n c true:=by simp[command,h44]
  rw[e]
  have AS:=hide (EK w N b A its n S c true h ho hi hn hc)
  subst h44
  clear e h h46
  generalize Mc.step its S n c true=r at *
  go_enter Tryz.func39,Tryz.ntmps39
  go_wp2_with (first|(go_at_call 62;refine AS.out.mono ?_;rintro e w2 ⟨rfl,hm2,hk2⟩))
  go_ret
  exact ⟨rfl,hm2,hk2⟩
 have t46:(what==46)=false:=by simp[h46]
 have t44:(what==44)=false:=by simp[h44]
 by_cases h112:what=112
 ·subst h112
  clear t46 t44 h46 h44
  have r1:w.cell? ⟨b,1,none⟩=some (.slice (some ⟨A.g1,0,none⟩) n A.c1):=h.root.cell 1 (by omega)
  have RC:=hide (h.nG c hc)
  obtain ⟨ud,hu,hd⟩:=Tryz.uCpu
  have HU:=hide hu
  have HD:=hide hd
  clear hu hd
  cases ht:(S.cp c).t.there
  ·rw[ht] at RC
   have e:command its S n c 112=(95,S):=by simp[command,ht]
   rw[e]
   clear e h ht
   go_enter Tryz.func39,Tryz.ntmps39
   go_wp2_with (first|(refine wpList_load_mid rfl _ _ rfl _ _ rfl _ ud RC.out HU.out HD.out Tryz.iCpu ?_)|(refine wpList_store_row rfl 110 _ _ rfl _ _ rfl rfl 110 _ (heap_alloc_last _ _) Tryz.iCpu rfl (r9 _ _ _ _ _ _ _ _ _) ?_;rw[World.setRow_alloc_new]))
   go_ret
   exact ⟨rfl,HM.out.alloc _,(Kp.refl A w).alloc _⟩
  rw[ht] at RC
  cases hh:(S.cp c).h.there
  ·rw[hh] at RC
   by_cases hz:0<(S.cp c).t.held
   ·have hz1:(0:Int)<((S.cp c).t.held:Int):=by omega
    have e:command its S n c 112=(95,S):=by simp[command,hz]
    rw[e]
    clear e h ht hh hz
    go_enter Tryz.func39,Tryz.ntmps39
    go_wp2_with (first|(refine wpList_load_mid rfl _ _ rfl _ _ rfl _ ud RC.out HU.out HD.out Tryz.iCpu ?_)|(refine wpList_store_row rfl 110 _ _ rfl _ _ rfl rfl 110 _ (heap_alloc_last _ _) Tryz.iCpu rfl (r9 _ _ _ _ _ _ _ _ _) ?_;rw[World.setRow_alloc_new]))
    go_ret
    exact ⟨rfl,HM.out.alloc _,(Kp.refl A w).alloc _⟩
   ·have hz0:(S.cp c).t.held=0:=by omega
    rw[hz0] at RC
    cases hof:(S.cp c).off
    ·rw[hof] at RC
     have e:command its S n c 112=(112,leaves S c (S.cp c).t.pos):=by simp[command,ht,hh,hz0,hof]
     rw[e]
     have AL:=hide (fun W (hW:DM W N b A its n S)=>yg W N b A its n S c (S.cp c).t.pos hW hc hn ((hi.t c hc).item ht))
     clear e h ht hh hz hz0 hof
     generalize leaves S c (S.cp c).t.pos=R at *
     generalize (S.cp c).t.pos=tp at *
     go_enter Tryz.func39,Tryz.ntmps39
     go_wp2_with (first|(refine wpList_load_mid rfl _ _ rfl _ _ rfl _ ud RC.out HU.out HD.out Tryz.iCpu ?_)|(refine wpList_store_row rfl 110 _ _ rfl _ _ rfl rfl 110 _ (heap_alloc_last _ _) Tryz.iCpu rfl (r9 _ _ _ _ _ _ _ _ _) ?_;rw[World.setRow_alloc_new])|(go_at_call 64;refine (AL.out _ (HM.out.alloc _)).mono ?_;rintro e w2 ⟨rfl,hm2,hk2⟩))
     go_ret
     exact ⟨rfl,hm2,((Kp.refl A w).alloc _).trans hk2⟩
    ·rw[hof] at RC
     have e:command its S n c 112=(95,S):=by simp[command,hof]
     rw[e]
     clear e h ht hh hz hz0 hof
     go_enter Tryz.func39,Tryz.ntmps39
     go_wp2_with (first|(refine wpList_load_mid rfl _ _ rfl _ _ rfl _ ud RC.out HU.out HD.out Tryz.iCpu ?_)|(refine wpList_store_row rfl 110 _ _ rfl _ _ rfl rfl 110 _ (heap_alloc_last _ _) Tryz.iCpu rfl (r9 _ _ _ _ _ _ _ _ _) ?_;rw[World.setRow_alloc_new]))
     go_ret
     exact ⟨rfl,HM.out.alloc _,(Kp.refl A w).alloc _⟩
  ·rw[hh] at RC
   have e:command its S n c 112=(95,S):=by simp[command,hh]
   rw[e]
   clear e h ht hh
   go_enter Tryz.func39,Tryz.ntmps39
   go_wp2_with (first|(refine wpList_load_mid rfl _ _ rfl _ _ rfl _ ud RC.out HU.out HD.out Tryz.iCpu ?_)|(refine wpList_store_row rfl 110 _ _ rfl _ _ rfl rfl 110 _ (heap_alloc_last _ _) Tryz.iCpu rfl (r9 _ _ _ _ _ _ _ _ _) ?_;rw[World.setRow_alloc_new]))
   go_ret
   exact ⟨rfl,HM.out.alloc _,(Kp.refl A w).alloc _⟩
 ·have e:command its S n c what=comes its S c (what-48).toNat:=by simp[command,h46,h44,h112]
  rw[e]
  have Uk:(what != 112)=true:=by simp[h112]
  have hd:48<=what/\what<=55:=by
   simp[gJ,h46,h44,h112] at hwo;omega
  have AC:=hide (N9 w N b A its n S c (what-48).toNat h hn hc (by omega))
  have hcast:(((what-48).toNat:Nat):Int)=what-48:=by omega
  rw[hcast] at AC
  have hw8:IntKind.u8.wrap (what-48)=what-48:=by rw[IntKind.wrap_u8];omega
  clear e h h46 h44 h112 hcast hwo
  generalize comes its S c (what-48).toNat=r at *
  go_enter Tryz.func39,Tryz.ntmps39
  go_wp2_with (first|(go_at_call 63;refine AC.out.mono ?_;rintro e w2 ⟨rfl,hm2,hk2⟩))
  go_ret
  exact ⟨rfl,hm2,hk2⟩
end
section
open Mc
theorem Fs (t:Int)(w:World)(h0:0<=t)(h1:t<=255) :
  Calls Tryz.prog 40 #[.int .u8 t] w fun e w'=>e=.returned (.bool (bad t))/\w'=w:=by
 by_cases h68:t=68
 ·subst h68
  go_enter Tryz.func40,Tryz.ntmps40
  go_wp2
  go_ret
  exact ⟨rfl,rfl⟩
 have n68:(t==68)=false:=by simp[h68]
 by_cases h85:t=85
 ·subst h85
  go_enter Tryz.func40,Tryz.ntmps40
  go_wp2
  go_ret
  exact ⟨rfl,rfl⟩
 have n85:(t==85)=false:=by simp[h85]
 by_cases h83:t=83
 ·subst h83
  go_enter Tryz.func40,Tryz.ntmps40
  go_wp2
  go_ret
  exact ⟨rfl,rfl⟩
 have n83:(t==83)=false:=by simp[h83]
 by_cases h69:t=69
 ·subst h69
  go_enter Tryz.func40,Tryz.ntmps40
  go_wp2
  go_ret
  exact ⟨rfl,rfl⟩
 have n69:(t==69)=false:=by simp[h69]
 by_cases h73:t=73
 ·subst h73
  go_enter Tryz.func40,Tryz.ntmps40
  go_wp2
  go_ret
  exact ⟨rfl,rfl⟩
 have n73:(t==73)=false:=by simp[h73]
 by_cases h87:t=87
 ·subst h87
  go_enter Tryz.func40,Tryz.ntmps40
  go_wp2
  go_ret
  exact ⟨rfl,rfl⟩
 have n87:(t==87)=false:=by simp[h87]
 by_cases h82:t=82
 ·subst h82
  go_enter Tryz.func40,Tryz.ntmps40
  go_wp2
  go_ret
  exact ⟨rfl,rfl⟩
 have n82:(t==82)=false:=by simp[h82]
 have e:bad t=false:=by simp[bad,n68,n85,n83,n69,n73,n87,n82]
 rw[e]
 clear e h68 h85 h83 h69 h73 h87 h82
 go_enter Tryz.func40,Tryz.ntmps40
 go_wp2
 go_ret
 exact ⟨rfl,rfl⟩
theorem Kz (n:Int)(s:ByteArray)(k:Nat)(h:k<s.size)(h2:¬k+1<s.size):aX n (s.data.toList.drop k)=false:=by
 rw[Wd.drop_cons s k h,List.drop_of_length_le (by rw[Wd.aI];omega)];rfl
theorem Dp (s:ByteArray)(n:Nat)(w:World)(hs:s.size<=1000000)(hn:n<=3) :
  Calls Tryz.prog 48 #[.string s,.int .i64 n] w fun e w'=>e=.returned (.bool (aX n s.data.toList))/\w'=w:=by
 go_enter Tryz.func48,Tryz.ntmps48
 go_wp2
 go_loop [5] (fun a=>∃k:Nat,k<=s.size/\a=.int .i64 k/\aX n s.data.toList=aX n (s.data.toList.drop k)) (fun a=>s.size-(intOf a).toNat)
 case atStart=>exact ⟨0,by omega,rfl,by simp⟩
 case round =>
  obtain ⟨k,hk,rfl,hp⟩:=hrel
  have HP:=hide hp
  clear hp
  by_cases hlt:k<s.size
  ·by_cases hlt2:k+1<s.size
   ·have HS:=hide (xE n s k hlt2)
    have bo:(0:Int)<=((s[k+1].toNat:Nat):Int)/\((s[k+1].toNat:Nat):Int)<=255:=by have:=s[k+1].toNat_lt;omega
    have ba:(0:Int)<=((s[k].toNat:Nat):Int)/\((s[k].toNat:Nat):Int)<=255:=by have:=s[k].toNat_lt;omega
    by_cases ha:48<=((s[k].toNat:Nat):Int)/\((s[k].toNat:Nat):Int)-48<n
    ·have hw8:IntKind.u8.wrap (((s[k].toNat:Nat):Int)-48)=((s[k].toNat:Nat):Int)-48:=by rw[IntKind.wrap_u8];omega
     cases ho:gJ ((s[k+1].toNat:Nat):Int)
     ·have HN:Hid (aX n (s.data.toList.drop k)=false):=by apply hide;rw[HS.out,ho];simp
      have hno:¬(((s[k+1].toNat:Nat):Int)=46\/((s[k+1].toNat:Nat):Int)=44\/((s[k+1].toNat:Nat):Int)=112\/(48<=((s[k+1].toNat:Nat):Int)/\((s[k+1].toNat:Nat):Int)<=55)):=by
       intro h;simp[gJ] at ho;omega
      have m46:(((s[k+1].toNat:Nat):Int) != 46)=true:=by simp;omega
      have m44:(((s[k+1].toNat:Nat):Int) != 44)=true:=by simp;omega
      have GA:(((s[k+1].toNat:Nat):Int) != 112)=true:=by simp;omega
      clear ho
      by_cases h48:((s[k+1].toNat:Nat):Int)<48
      ·go_wp2
       all_goals (first|(exfalso;omega)|(go_ret;exact ⟨bW (by rw[HP.out,HN.out]),rfl⟩))
      ·have h55:55<((s[k+1].toNat:Nat):Int):=by omega
       go_wp2
       all_goals (first|(exfalso;omega)|(go_ret;exact ⟨bW (by rw[HP.out,HN.out]),rfl⟩))
     ·have HN:Hid (aX n (s.data.toList.drop k)=aX n (s.data.toList.drop (k+2))):=by apply hide;rw[HS.out,ho];simp[ha.1,ha.2]
      by_cases h46:((s[k+1].toNat:Nat):Int)=46
      ·have m46:(((s[k+1].toNat:Nat):Int) != 46)=false:=by simp[h46]
       clear ho h46
       go_wp2
       all_goals (first|(exfalso;omega)|skip)
       go_round
       case rel=>exact ⟨k+2,by omega,by go_num,by rw[HP.out,HN.out]⟩
       case measure=>simp[intOf]<;>omega
      have m46:(((s[k+1].toNat:Nat):Int) != 46)=true:=by simp[h46]
      by_cases h44:((s[k+1].toNat:Nat):Int)=44
      ·have m44:(((s[k+1].toNat:Nat):Int) != 44)=false:=by simp[h44]
       clear ho h46 h44
       go_wp2
       all_goals (first|(exfalso;omega)|skip)
       go_round
       case rel=>exact ⟨k+2,by omega,by go_num,by rw[HP.out,HN.out]⟩
       case measure=>simp[intOf]<;>omega
      have m44:(((s[k+1].toNat:Nat):Int) != 44)=true:=by simp[h44]
      by_cases h112:((s[k+1].toNat:Nat):Int)=112
      ·have GA:(((s[k+1].toNat:Nat):Int) != 112)=false:=by simp[h112]
       clear ho h46 h44 h112
       go_wp2
       all_goals (first|(exfalso;omega)|skip)
       go_round
       case rel=>exact ⟨k+2,by omega,by go_num,by rw[HP.out,HN.out]⟩
       case measure=>simp[intOf]<;>omega
      have GA:(((s[k+1].toNat:Nat):Int) != 112)=true:=by simp[h112]
      have h48:48<=((s[k+1].toNat:Nat):Int)/\((s[k+1].toNat:Nat):Int)<=55:=by
       simp[gJ] at ho;omega
      clear ho h46 h44 h112
      go_wp2
      all_goals (first|(exfalso;omega)|skip)
      go_round
      case rel=>exact ⟨k+2,by omega,by go_num,by rw[HP.out,HN.out]⟩
      case measure=>simp[intOf]<;>omega
    ·have HN:Hid (aX n (s.data.toList.drop k)=false):=by
      apply hide;rw[HS.out]
      by_cases h1:48<=((s[k].toNat:Nat):Int)
      ·have h2:¬((s[k].toNat:Nat):Int)-48<n:=fun h=>ha ⟨h1,h⟩
       simp[h2]
      ·simp[h1]
     by_cases h1:((s[k].toNat:Nat):Int)<48
     ·clear ha
      go_wp2
      all_goals (first|(exfalso;omega)|(go_ret;exact ⟨bW (by rw[HP.out,HN.out]),rfl⟩))
     ·have hw8:IntKind.u8.wrap (((s[k].toNat:Nat):Int)-48)=((s[k].toNat:Nat):Int)-48:=by rw[IntKind.wrap_u8];omega
      have h2:(n:Int)<=((s[k].toNat:Nat):Int)-48:=by omega
      clear ha
      go_wp2
      all_goals (first|(exfalso;omega)|(go_ret;exact ⟨bW (by rw[HP.out,HN.out]),rfl⟩))
   ·have HN:=hide (Kz n s k hlt hlt2)
    go_wp2
    all_goals (first|(exfalso;omega)|(go_ret;exact ⟨bW (by rw[HP.out,HN.out]),rfl⟩))
  ·go_wp2
   go_ret
   exact ⟨bW (by rw[HP.out,Cu n s k (by omega)]),rfl⟩
end
end Go.Proofs.YtecmfdkhcffpmaaGreat
