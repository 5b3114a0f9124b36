/- MacL, MacM. -/
import Derived.Test.YtecmfdkhcffpmaaGreatB18
namespace Go.Proofs.YtecmfdkhcffpmaaGreat
open Go.RowKit
set_option linter.unusedVariables false
set_option linter.unusedSimpArgs false
set_option linter.unusedSectionVars false
set_option maxHeartbeats 8000000
set_option maxRecDepth 100000
section
open Mc
theorem Qd (S:Ma)(c:Nat)(o:Bool)(i:Nat):(if i=c*9+8 then Value.bool o else iE S i)=iE (jR S c o) i:=by
 unfold iE jR av
 by_cases e:i / 9=c
 ·have hi:i=c*9+i%9:=by omega
  have hm:i%9<9:=Nat.mod_lt _ (by omega)
  simp only[e,if_true]
  generalize i%9=m at *
  subst hi
  rcases m with _|_|_|_|_|_|_|_|_|m<;>first|omega|(rw[if_neg (by omega)];rfl)|(rw[if_pos rfl];rfl)
 ·simp only[if_neg e]
  rw[if_neg (by omega)]
theorem DM.aA {w:World}{N b:Nat}{A:Ad}{its:List Wd.It}{n:Nat}{S:Ma}(h:DM w N b A its n S)(c:Nat)(o:Bool):DM (w.setCell ⟨A.g1,c*9+8,none⟩ (.bool o)) N b A its n (jR S c o) :=
 h.zZ ((Kp.refl A w).set1 _ _) ((h.au.set (c*9+8) (.bool o)).congr fun i _=>Qd S c o i) rfl rfl (fun g hg _=>heap_setCell_other w ⟨A.g1,c*9+8,none⟩ g _ hg)
theorem N8 (w:World)(N b:Nat)(A:Ad)(its:List Wd.It)(n:Nat)(S:Ma)(c:Nat)(second:Bool)(h:DM w N b A its n S)(ho:bf its)(hi:Inv its n S)(hn:n<=3)(hc:c<n)(fi fp fh:Nat)(hwk:works S c=⟨true,fi,fp,fh⟩)(z8:atB (ah its fi) fp≠101)(m43:atB (ah its fi) fp≠43)(kP:atB (ah its fi) fp≠122)(jo:atB (ah its fi) fp≠114)(jq:atB (ah its fi) fp≠119) :
  Calls Tryz.prog 62 #[.pointer (some ⟨b,0,none⟩),.int .i64 c,.bool second] w fun e w'=>e=.returned (.int .u8 (Mc.step its S n c second).1)/\DM w' N b A its n (Mc.step its S n c second).2/\Kp A w w':=by
 have CA:=h.caps
 unfold maxLen at CA
 have hok:=lK hi c hc
 have hhe:=ng hi c hc
 have W1:=j5 w N b A its n S c h hc hn
 rw[hwk] at hok hhe W1
 obtain ⟨hit,fA⟩:=hok rfl
 have hpo:fp<=20000:=by have:=ho.body fi hit;simp only at fA;omega
 simp only at hit hhe
 have AA:=hide (fun W=>lq its ho fi fp W hit hpo)
 have e:Mc.step its S n c second=Mc.lone its S c second:=by simp only[Mc.step,hwk];rw[if_neg (by simp),if_neg z8,if_neg m43,if_neg kP,if_neg (by rintro ⟨e|e,_⟩;exact jo e;exact jq e)]
 rw[e]
 have AL:=hide (fun W=>yH W its ho fi ⟨true,fi,fp,fh⟩ (S.cp c).h.there (S.cp c).off second hit hpo (by simp only;omega))
 have e2:Mc.lone its S c second=((alone (ah its fi) ⟨true,fi,fp,fh⟩ (S.cp c).h.there (S.cp c).off second).1,jR (put S c (alone (ah its fi) ⟨true,fi,fp,fh⟩ (S.cp c).h.there (S.cp c).off second).2.1) c (alone (ah its fi) ⟨true,fi,fp,fh⟩ (S.cp c).h.there (S.cp c).off second).2.2):=by simp only[Mc.lone,hwk]
 rw[e2]
 have n101:(atB (ah its fi) fp==101)=false:=by simp[z8]
 have n43:(atB (ah its fi) fp==43)=false:=by simp[m43]
 have n122:(atB (ah its fi) fp==122)=false:=by simp[kP]
 have n114:(atB (ah its fi) fp==114)=false:=by simp[jo]
 have n119:(atB (ah its fi) fp==119)=false:=by simp[jq]
 have bch:=jG (ah its fi) fp
 clear e e2 z8 m43 kP jo jq
 generalize atB (ah its fi) fp=ch at *
 generalize alone (ah its fi) ⟨true,fi,fp,fh⟩ (S.cp c).h.there (S.cp c).off second=r at *
 obtain ⟨rt,⟨gt,gi,gp,gh⟩,ro⟩:=r
 dsimp only at AL ⊢
 have W1':Hid (Calls Tryz.prog 81 #[.pointer (some ⟨b,0,none⟩),.int .i64 c] w fun e w'=>e=.returned (.agg #[.bool true,.int .i64 (fi:Int),.int .i64 (fp:Int),.int .i64 (fh:Int)])/\Below w.heap.size w w'):=hide W1
 have HM:=hide h
 have HO:=hide ho
 have HI:=hide hi
 have HW:=hide hwk
 clear h ho hi hwk W1 hok fA
 generalize hHT:(S.cp c).h.there=hd at *
 generalize hOF:(S.cp c).off=of at *
 have HHT:=hide hHT
 have HOF:=hide hOF
 clear hHT hOF
 cases of
 ·go_enter Tryz.func62,Tryz.ntmps62
  go_wp2_with (first|(go_at_call 81;refine W1'.out.mono ?_;rintro e w1 ⟨rfl,hb1⟩;have HM1:=hide (HM.out.below hb1);have r0:∀o,(w1.alloc o).cell? ⟨b,0,none⟩=some (.slice A.ai its.length A.ci):=(fun o=>(HM1.out.alloc o).root.cell 0 (by omega));have r1:∀o,(w1.alloc o).cell? ⟨b,1,none⟩=some (.slice (some ⟨A.g1,0,none⟩) n A.c1):=(fun o=>(HM1.out.alloc o).root.cell 1 (by omega));have p4:∀o,(w1.alloc o).cell? ⟨A.g1,c*9+4,none⟩=some (.bool hd):=(fun o=>by rw[<-HHT.out];exact (HM1.out.alloc o).aC c 4 hc (by omega));have p8:∀o,(w1.alloc o).cell? ⟨A.g1,c*9+8,none⟩=some (.bool false):=(fun o=>by rw[<-HOF.out];exact (HM1.out.alloc o).aC c 8 hc (by omega));obtain ⟨g,hg,q1,_⟩:=HM1.out.bC fi hit;rw[hg] at r0;have q1':∀o,(w1.alloc o).cell? ⟨g,fi*2+1,none⟩=some (.string (Wd.mkS (ah its fi))):=(fun o=>by obtain ⟨g',hg',q',_⟩:=(HM1.out.alloc o).bC fi hit;rw[hg] at hg';cases hg';exact q');clear q1 hg)|(refine wpList_store_row rfl 108 _ _ rfl _ _ rfl rfl 108 _ (heap_alloc_last _ _) Tryz.iFrame rfl (dx ⟨true,fi,fp,fh⟩) ?_;rw[World.setRow_alloc_new]))
  go_quiet (fail)
  have HMW:=hide ((HM1.out.alloc (.cells #[.bool true,.int .i64 (fi:Int),.int .i64 (fp:Int),.int .i64 (fh:Int)] 108)).drewN nq)
  have HFW:=hide ((Blk.eB w1 ⟨true,fi,fp,fh⟩ 108).drewN nq)
  have HBW:=hide (below_drewN (aL hb1 (.cells #[.bool true,.int .i64 (fi:Int),.int .i64 (fp:Int),.int .i64 (fh:Int)] 108)) nq)
  clear r0 r1 p4 p8 q1'
  generalize (w1.alloc (.cells #[.bool true,.int .i64 (fi:Int),.int .i64 (fp:Int),.int .i64 (fh:Int)] 108)).drewN nq=W at *
  have a0:W.cell? ⟨w1.heap.size,0,none⟩=some (.bool true):=HFW.out.cell 0 (by omega)
  have a1:W.cell? ⟨w1.heap.size,1,none⟩=some (.int .i64 (fi:Int)):=HFW.out.cell 1 (by omega)
  have a2:W.cell? ⟨w1.heap.size,2,none⟩=some (.int .i64 (fp:Int)):=HFW.out.cell 2 (by omega)
  have a3:W.cell? ⟨w1.heap.size,3,none⟩=some (.int .i64 (fh:Int)):=HFW.out.cell 3 (by omega)
  have r1:W.cell? ⟨b,1,none⟩=some (.slice (some ⟨A.g1,0,none⟩) n A.c1):=HMW.out.root.cell 1 (by omega)
  have p8:W.cell? ⟨A.g1,c*9+8,none⟩=some (.bool false):=by rw[<-HOF.out];exact HMW.out.aC c 8 hc (by omega)
  generalize w1.heap.size=G at *
  generalize Wd.mkS (ah its fi)=sb at *
  have a0':∀o,(W.alloc o).cell? ⟨G,0,none⟩=some (.bool true):=fun o=>(HFW.out.alloc o).cell 0 (by omega)
  have a1':∀o,(W.alloc o).cell? ⟨G,1,none⟩=some (.int .i64 (fi:Int)):=fun o=>(HFW.out.alloc o).cell 1 (by omega)
  have a2':∀o,(W.alloc o).cell? ⟨G,2,none⟩=some (.int .i64 (fp:Int)):=fun o=>(HFW.out.alloc o).cell 2 (by omega)
  have a3':∀o,(W.alloc o).cell? ⟨G,3,none⟩=some (.int .i64 (fh:Int)):=fun o=>(HFW.out.alloc o).cell 3 (by omega)
  have r1':∀o,(W.alloc o).cell? ⟨b,1,none⟩=some (.slice (some ⟨A.g1,0,none⟩) n A.c1):=fun o=>(HMW.out.alloc o).root.cell 1 (by omega)
  have p8':∀o,(W.alloc o).cell? ⟨A.g1,c*9+8,none⟩=some (.bool false):=fun o=>by rw[<-HOF.out];exact (HMW.out.alloc o).aC c 8 hc (by omega)
  go_wp2_with (first|(go_at_call 68;refine (AA.out _).mono ?_;rintro e w' ⟨rfl,hww⟩;obtain rfl:=hww.symm;clear hww))
  have hGl:G<W.heap.size:=HFW.out.lt
  have hbl:b<W.heap.size:=HMW.out.root.lt
  have oW:A.g1<W.heap.size:=HMW.out.au.lt
  have hGn:W.heap.size≠G:=by omega
  have hbn:W.heap.size≠b:=by omega
  have Aa:W.heap.size≠A.g1:=by omega
  go_region_held3 (fun W'=>W'.cell? ⟨G,0,none⟩=some (.bool true)/\W'.cell? ⟨G,1,none⟩=some (.int .i64 (fi:Int))/\W'.cell? ⟨G,2,none⟩=some (.int .i64 (fp:Int))/\W'.cell? ⟨G,3,none⟩=some (.int .i64 (fh:Int))/\W'.cell? ⟨b,1,none⟩=some (.slice (some ⟨A.g1,0,none⟩) n A.c1)/\W'.cell? ⟨A.g1,c*9+8,none⟩=some (.bool false)) (go_keep) (first|(go_at_call 95;refine (AL.out _).mono ?_;rintro e w2 ⟨rfl,hb2⟩;(first|(have g1:=hide (dw (g:=W.heap.size) hb2 (heap_alloc_last W (.cells #[.bool false,.int .i64 0,.int .i64 0,.int .i64 0] 108)));have HB2:=hide (ak (((Below.refl _ W).alloc (Nat.le_refl _) (.cells #[.bool false,.int .i64 0,.int .i64 0,.int .i64 0] 108)).drew) hb2);have z0:w2.cell? ⟨W.heap.size,0,none⟩=some (.bool false):=aj g1.out rfl;have z1:w2.cell? ⟨W.heap.size,1,none⟩=some (.int .i64 0):=aj g1.out rfl;have z2:w2.cell? ⟨W.heap.size,2,none⟩=some (.int .i64 0):=aj g1.out rfl;have z3:w2.cell? ⟨W.heap.size,3,none⟩=some (.int .i64 0):=aj g1.out rfl;have y0:=frozen_of_row w2 W.heap.size 0 _ _ g1.out;have y1:=frozen_of_row w2 W.heap.size 1 _ _ g1.out;have y2:=frozen_of_row w2 W.heap.size 2 _ _ g1.out;have y3:=frozen_of_row w2 W.heap.size 3 _ _ g1.out)|(have HB2:=hide (ak ((Below.refl _ W).drew) hb2)));have k0:=(HB2.out.cell (p:=⟨G,0,none⟩) hGl).trans a0;have k1:=(HB2.out.cell (p:=⟨G,1,none⟩) hGl).trans a1;have k2:=(HB2.out.cell (p:=⟨G,2,none⟩) hGl).trans a2;have k3:=(HB2.out.cell (p:=⟨G,3,none⟩) hGl).trans a3;have k4:=(HB2.out.cell (p:=⟨b,1,none⟩) hbl).trans r1;have k5:=(HB2.out.cell (p:=⟨A.g1,c*9+8,none⟩) oW).trans p8))
  all_goals (go_wp2_with (first|(go_at_call 92;refine (nu _ N b A its n S c ⟨gt,gi,gp,gh⟩ (HMW.out.below (by first|exact (aL HB2.out _)|exact ((((HB2.out.setCell (p:=⟨W.heap.size,0,none⟩) (Nat.le_refl _) _).setCell (p:=⟨W.heap.size,1,none⟩) (Nat.le_refl _) _).setCell (p:=⟨W.heap.size,2,none⟩) (Nat.le_refl _) _).setCell (p:=⟨W.heap.size,3,none⟩) (Nat.le_refl _) _))) hc hn).mono ?_;rintro e w3 ⟨rfl,hm3,hk3⟩;have HM3:=hide hm3;have HK3:=hide ((Kp.of (ak HBW.out (by first|exact (aL HB2.out _)|exact ((((HB2.out.setCell (p:=⟨W.heap.size,0,none⟩) (Nat.le_refl _) _).setCell (p:=⟨W.heap.size,1,none⟩) (Nat.le_refl _) _).setCell (p:=⟨W.heap.size,2,none⟩) (Nat.le_refl _) _).setCell (p:=⟨W.heap.size,3,none⟩) (Nat.le_refl _) _)))).trans hk3);have s1:w3.cell? ⟨b,1,none⟩=some (.slice (some ⟨A.g1,0,none⟩) n A.c1):=hm3.root.cell 1 (by omega);obtain ⟨ov,s8⟩:∃v,w3.cell? ⟨A.g1,c*9+8,none⟩=some v:=⟨_,hm3.aC c 8 hc (by omega)⟩;have s9:=hm3.eD c 8;clear hm3 hk3)))
  all_goals (go_ret;exact ⟨rfl,HM3.out.aA c ro,HK3.out.set1 _ _⟩)
 ·go_enter Tryz.func62,Tryz.ntmps62
  go_wp2_with (first|(go_at_call 81;refine W1'.out.mono ?_;rintro e w1 ⟨rfl,hb1⟩;have HM1:=hide (HM.out.below hb1);have r0:∀o,(w1.alloc o).cell? ⟨b,0,none⟩=some (.slice A.ai its.length A.ci):=(fun o=>(HM1.out.alloc o).root.cell 0 (by omega));have r1:∀o,(w1.alloc o).cell? ⟨b,1,none⟩=some (.slice (some ⟨A.g1,0,none⟩) n A.c1):=(fun o=>(HM1.out.alloc o).root.cell 1 (by omega));have p4:∀o,(w1.alloc o).cell? ⟨A.g1,c*9+4,none⟩=some (.bool hd):=(fun o=>by rw[<-HHT.out];exact (HM1.out.alloc o).aC c 4 hc (by omega));have p8:∀o,(w1.alloc o).cell? ⟨A.g1,c*9+8,none⟩=some (.bool true):=(fun o=>by rw[<-HOF.out];exact (HM1.out.alloc o).aC c 8 hc (by omega));obtain ⟨g,hg,q1,_⟩:=HM1.out.bC fi hit;rw[hg] at r0;have q1':∀o,(w1.alloc o).cell? ⟨g,fi*2+1,none⟩=some (.string (Wd.mkS (ah its fi))):=(fun o=>by obtain ⟨g',hg',q',_⟩:=(HM1.out.alloc o).bC fi hit;rw[hg] at hg';cases hg';exact q');clear q1 hg)|(refine wpList_store_row rfl 108 _ _ rfl _ _ rfl rfl 108 _ (heap_alloc_last _ _) Tryz.iFrame rfl (dx ⟨true,fi,fp,fh⟩) ?_;rw[World.setRow_alloc_new]))
  go_quiet (fail)
  have HMW:=hide ((HM1.out.alloc (.cells #[.bool true,.int .i64 (fi:Int),.int .i64 (fp:Int),.int .i64 (fh:Int)] 108)).drewN nq)
  have HFW:=hide ((Blk.eB w1 ⟨true,fi,fp,fh⟩ 108).drewN nq)
  have HBW:=hide (below_drewN (aL hb1 (.cells #[.bool true,.int .i64 (fi:Int),.int .i64 (fp:Int),.int .i64 (fh:Int)] 108)) nq)
  clear r0 r1 p4 p8 q1'
  generalize (w1.alloc (.cells #[.bool true,.int .i64 (fi:Int),.int .i64 (fp:Int),.int .i64 (fh:Int)] 108)).drewN nq=W at *
  have a0:W.cell? ⟨w1.heap.size,0,none⟩=some (.bool true):=HFW.out.cell 0 (by omega)
  have a1:W.cell? ⟨w1.heap.size,1,none⟩=some (.int .i64 (fi:Int)):=HFW.out.cell 1 (by omega)
  have a2:W.cell? ⟨w1.heap.size,2,none⟩=some (.int .i64 (fp:Int)):=HFW.out.cell 2 (by omega)
  have a3:W.cell? ⟨w1.heap.size,3,none⟩=some (.int .i64 (fh:Int)):=HFW.out.cell 3 (by omega)
  have r1:W.cell? ⟨b,1,none⟩=some (.slice (some ⟨A.g1,0,none⟩) n A.c1):=HMW.out.root.cell 1 (by omega)
  have p8:W.cell? ⟨A.g1,c*9+8,none⟩=some (.bool true):=by rw[<-HOF.out];exact HMW.out.aC c 8 hc (by omega)
  generalize w1.heap.size=G at *
  generalize Wd.mkS (ah its fi)=sb at *
  have a0':∀o,(W.alloc o).cell? ⟨G,0,none⟩=some (.bool true):=fun o=>(HFW.out.alloc o).cell 0 (by omega)
  have a1':∀o,(W.alloc o).cell? ⟨G,1,none⟩=some (.int .i64 (fi:Int)):=fun o=>(HFW.out.alloc o).cell 1 (by omega)
  have a2':∀o,(W.alloc o).cell? ⟨G,2,none⟩=some (.int .i64 (fp:Int)):=fun o=>(HFW.out.alloc o).cell 2 (by omega)
  have a3':∀o,(W.alloc o).cell? ⟨G,3,none⟩=some (.int .i64 (fh:Int)):=fun o=>(HFW.out.alloc o).cell 3 (by omega)
  have r1':∀o,(W.alloc o).cell? ⟨b,1,none⟩=some (.slice (some ⟨A.g1,0,none⟩) n A.c1):=fun o=>(HMW.out.alloc o).root.cell 1 (by omega)
  have p8':∀o,(W.alloc o).cell? ⟨A.g1,c*9+8,none⟩=some (.bool true):=fun o=>by rw[<-HOF.out];exact (HMW.out.alloc o).aC c 8 hc (by omega)
  go_wp2_with (first|(go_at_call 68;refine (AA.out _).mono ?_;rintro e w' ⟨rfl,hww⟩;obtain rfl:=hww.symm;clear hww))
  have hGl:G<W.heap.size:=HFW.out.lt
  have hbl:b<W.heap.size:=HMW.out.root.lt
  have oW:A.g1<W.heap.size:=HMW.out.au.lt
  have hGn:W.heap.size≠G:=by omega
  have hbn:W.heap.size≠b:=by omega
  have Aa:W.heap.size≠A.g1:=by omega
  go_region_held3 (fun W'=>W'.cell? ⟨G,0,none⟩=some (.bool true)/\W'.cell? ⟨G,1,none⟩=some (.int .i64 (fi:Int))/\W'.cell? ⟨G,2,none⟩=some (.int .i64 (fp:Int))/\W'.cell? ⟨G,3,none⟩=some (.int .i64 (fh:Int))/\W'.cell? ⟨b,1,none⟩=some (.slice (some ⟨A.g1,0,none⟩) n A.c1)/\W'.cell? ⟨A.g1,c*9+8,none⟩=some (.bool true)) (go_keep) (first|(go_at_call 95;refine (AL.out _).mono ?_;rintro e w2 ⟨rfl,hb2⟩;(first|(have g1:=hide (dw (g:=W.heap.size) hb2 (heap_alloc_last W (.cells #[.bool false,.int .i64 0,.int .i64 0,.int .i64 0] 108)));have HB2:=hide (ak (((Below.refl _ W).alloc (Nat.le_refl _) (.cells #[.bool false,.int .i64 0,.int .i64 0,.int .i64 0] 108)).drew) hb2);have z0:w2.cell? ⟨W.heap.size,0,none⟩=some (.bool false):=aj g1.out rfl;have z1:w2.cell? ⟨W.heap.size,1,none⟩=some (.int .i64 0):=aj g1.out rfl;have z2:w2.cell? ⟨W.heap.size,2,none⟩=some (.int .i64 0):=aj g1.out rfl;have z3:w2.cell? ⟨W.heap.size,3,none⟩=some (.int .i64 0):=aj g1.out rfl;have y0:=frozen_of_row w2 W.heap.size 0 _ _ g1.out;have y1:=frozen_of_row w2 W.heap.size 1 _ _ g1.out;have y2:=frozen_of_row w2 W.heap.size 2 _ _ g1.out;have y3:=frozen_of_row w2 W.heap.size 3 _ _ g1.out)|(have HB2:=hide (ak ((Below.refl _ W).drew) hb2)));have k0:=(HB2.out.cell (p:=⟨G,0,none⟩) hGl).trans a0;have k1:=(HB2.out.cell (p:=⟨G,1,none⟩) hGl).trans a1;have k2:=(HB2.out.cell (p:=⟨G,2,none⟩) hGl).trans a2;have k3:=(HB2.out.cell (p:=⟨G,3,none⟩) hGl).trans a3;have k4:=(HB2.out.cell (p:=⟨b,1,none⟩) hbl).trans r1;have k5:=(HB2.out.cell (p:=⟨A.g1,c*9+8,none⟩) oW).trans p8))
  all_goals (go_wp2_with (first|(go_at_call 92;refine (nu _ N b A its n S c ⟨gt,gi,gp,gh⟩ (HMW.out.below (by first|exact (aL HB2.out _)|exact ((((HB2.out.setCell (p:=⟨W.heap.size,0,none⟩) (Nat.le_refl _) _).setCell (p:=⟨W.heap.size,1,none⟩) (Nat.le_refl _) _).setCell (p:=⟨W.heap.size,2,none⟩) (Nat.le_refl _) _).setCell (p:=⟨W.heap.size,3,none⟩) (Nat.le_refl _) _))) hc hn).mono ?_;rintro e w3 ⟨rfl,hm3,hk3⟩;have HM3:=hide hm3;have HK3:=hide ((Kp.of (ak HBW.out (by first|exact (aL HB2.out _)|exact ((((HB2.out.setCell (p:=⟨W.heap.size,0,none⟩) (Nat.le_refl _) _).setCell (p:=⟨W.heap.size,1,none⟩) (Nat.le_refl _) _).setCell (p:=⟨W.heap.size,2,none⟩) (Nat.le_refl _) _).setCell (p:=⟨W.heap.size,3,none⟩) (Nat.le_refl _) _)))).trans hk3);have s1:w3.cell? ⟨b,1,none⟩=some (.slice (some ⟨A.g1,0,none⟩) n A.c1):=hm3.root.cell 1 (by omega);obtain ⟨ov,s8⟩:∃v,w3.cell? ⟨A.g1,c*9+8,none⟩=some v:=⟨_,hm3.aC c 8 hc (by omega)⟩;have s9:=hm3.eD c 8;clear hm3 hk3)))
  all_goals (go_ret;exact ⟨rfl,HM3.out.aA c ro,HK3.out.set1 _ _⟩)
end
section
open Mc
theorem FP (zc:Int)(hzc:zc=114\/zc=119)(w:World)(N b:Nat)(A:Ad)(its:List Wd.It)(n:Nat)(S:Ma)(c:Nat)(second:Bool)(h:DM w N b A its n S)(ho:bf its)(hi:Inv its n S)(hn:n<=3)(hc:c<n)(fi fp fh:Nat)(hwk:works S c=⟨true,fi,fp,fh⟩)(hch:atB (ah its fi) fp=zc)(hcl:clash its S n c ⟨true,fi,fp,fh⟩=false) :
  Calls Tryz.prog 62 #[.pointer (some ⟨b,0,none⟩),.int .i64 c,.bool second] w fun e w'=>e=.returned (.int .u8 (Mc.step its S n c second).1)/\DM w' N b A its n (Mc.step its S n c second).2/\Kp A w w':=by
 rcases hzc with rfl|rfl
 all_goals (
  have CA:=h.caps
  unfold maxLen at CA
  have hok:=lK hi c hc
  have hhe:=ng hi c hc
  have W1:=j5 w N b A its n S c h hc hn
  rw[hwk] at hok hhe W1
  obtain ⟨hit,fA⟩:=hok rfl
  have hpo:fp<=20000:=by have:=ho.body fi hit;simp only at fA;omega
  simp only at hit hhe
  have AA:=hide (fun W=>lq its ho fi fp W hit hpo)
  have e:Mc.step its S n c second=Mc.lone its S c second:=by simp only[Mc.step,hwk];rw[if_neg (by simp),if_neg (by rw[hch];decide),if_neg (by rw[hch];decide),if_neg (by rw[hch];decide),if_neg (by rintro ⟨_,e⟩;rw[hcl] at e;cases e)]
  rw[e]
  have AC:=hide (fun W (hW:DM W N b A its n S)=>Ee W N b A its n S c ⟨true,fi,fp,fh⟩ hW ho hi hn hc hit hpo (by simp[hch]))
  rw[hcl] at AC
  have AL:=hide (fun W=>yH W its ho fi ⟨true,fi,fp,fh⟩ (S.cp c).h.there (S.cp c).off second hit hpo (by simp only;omega))
  have e2:Mc.lone its S c second=((alone (ah its fi) ⟨true,fi,fp,fh⟩ (S.cp c).h.there (S.cp c).off second).1,jR (put S c (alone (ah its fi) ⟨true,fi,fp,fh⟩ (S.cp c).h.there (S.cp c).off second).2.1) c (alone (ah its fi) ⟨true,fi,fp,fh⟩ (S.cp c).h.there (S.cp c).off second).2.2):=by simp only[Mc.lone,hwk]
  rw[e2]
  rw[hch] at AA
  clear e e2 hch hcl
  generalize alone (ah its fi) ⟨true,fi,fp,fh⟩ (S.cp c).h.there (S.cp c).off second=r at *
  obtain ⟨rt,⟨gt,gi,gp,gh⟩,ro⟩:=r
  dsimp only at AL ⊢
  have W1':Hid (Calls Tryz.prog 81 #[.pointer (some ⟨b,0,none⟩),.int .i64 c] w fun e w'=>e=.returned (.agg #[.bool true,.int .i64 (fi:Int),.int .i64 (fp:Int),.int .i64 (fh:Int)])/\Below w.heap.size w w'):=hide W1
  have HM:=hide h
  have HO:=hide ho
  have HI:=hide hi
  have HW:=hide hwk
  clear h ho hi hwk W1 hok fA
  generalize hHT:(S.cp c).h.there=hd at *
  generalize hOF:(S.cp c).off=of at *
  have HHT:=hide hHT
  have HOF:=hide hOF
  clear hHT hOF
  cases of
  ·go_enter Tryz.func62,Tryz.ntmps62
   go_wp2_with (first|(go_at_call 81;refine W1'.out.mono ?_;rintro e w1 ⟨rfl,hb1⟩;have HM1:=hide (HM.out.below hb1);have r0:∀o,(w1.alloc o).cell? ⟨b,0,none⟩=some (.slice A.ai its.length A.ci):=(fun o=>(HM1.out.alloc o).root.cell 0 (by omega));have r1:∀o,(w1.alloc o).cell? ⟨b,1,none⟩=some (.slice (some ⟨A.g1,0,none⟩) n A.c1):=(fun o=>(HM1.out.alloc o).root.cell 1 (by omega));have p4:∀o,(w1.alloc o).cell? ⟨A.g1,c*9+4,none⟩=some (.bool hd):=(fun o=>by rw[<-HHT.out];exact (HM1.out.alloc o).aC c 4 hc (by omega));have p8:∀o,(w1.alloc o).cell? ⟨A.g1,c*9+8,none⟩=some (.bool false):=(fun o=>by rw[<-HOF.out];exact (HM1.out.alloc o).aC c 8 hc (by omega));obtain ⟨g,hg,q1,_⟩:=HM1.out.bC fi hit;rw[hg] at r0;have q1':∀o,(w1.alloc o).cell? ⟨g,fi*2+1,none⟩=some (.string (Wd.mkS (ah its fi))):=(fun o=>by obtain ⟨g',hg',q',_⟩:=(HM1.out.alloc o).bC fi hit;rw[hg] at hg';cases hg';exact q');clear q1 hg)|(refine wpList_store_row rfl 108 _ _ rfl _ _ rfl rfl 108 _ (heap_alloc_last _ _) Tryz.iFrame rfl (dx ⟨true,fi,fp,fh⟩) ?_;rw[World.setRow_alloc_new]))
   go_quiet (fail)
   have HMW:=hide ((HM1.out.alloc (.cells #[.bool true,.int .i64 (fi:Int),.int .i64 (fp:Int),.int .i64 (fh:Int)] 108)).drewN nq)
   have HFW:=hide ((Blk.eB w1 ⟨true,fi,fp,fh⟩ 108).drewN nq)
   have HBW:=hide (below_drewN (aL hb1 (.cells #[.bool true,.int .i64 (fi:Int),.int .i64 (fp:Int),.int .i64 (fh:Int)] 108)) nq)
   clear r0 r1 p4 p8 q1'
   generalize (w1.alloc (.cells #[.bool true,.int .i64 (fi:Int),.int .i64 (fp:Int),.int .i64 (fh:Int)] 108)).drewN nq=W at *
   have a0:W.cell? ⟨w1.heap.size,0,none⟩=some (.bool true):=HFW.out.cell 0 (by omega)
   have a1:W.cell? ⟨w1.heap.size,1,none⟩=some (.int .i64 (fi:Int)):=HFW.out.cell 1 (by omega)
   have a2:W.cell? ⟨w1.heap.size,2,none⟩=some (.int .i64 (fp:Int)):=HFW.out.cell 2 (by omega)
   have a3:W.cell? ⟨w1.heap.size,3,none⟩=some (.int .i64 (fh:Int)):=HFW.out.cell 3 (by omega)
   have r1:W.cell? ⟨b,1,none⟩=some (.slice (some ⟨A.g1,0,none⟩) n A.c1):=HMW.out.root.cell 1 (by omega)
   have p8:W.cell? ⟨A.g1,c*9+8,none⟩=some (.bool false):=by rw[<-HOF.out];exact HMW.out.aC c 8 hc (by omega)
   generalize w1.heap.size=G at *
   generalize Wd.mkS (ah its fi)=sb at *
   go_wp2_with (first|(go_at_call 68;refine (AA.out _).mono ?_;rintro e w' ⟨rfl,hww⟩;obtain rfl:=hww.symm;clear hww)|(go_at_call 94;refine (AC.out _ HMW.out).mono ?_;rintro e W2 ⟨rfl,hb5⟩))
   have HMX:=hide (HMW.out.below hb5)
   have HFX:=hide (HFW.out.below hb5)
   have HBX:=hide (ak HBW.out hb5)
   clear HMW HFW HBW a0 a1 a2 a3 r1 p8 hb5
   have a0:W2.cell? ⟨G,0,none⟩=some (.bool true):=HFX.out.cell 0 (by omega)
   have a1:W2.cell? ⟨G,1,none⟩=some (.int .i64 (fi:Int)):=HFX.out.cell 1 (by omega)
   have a2:W2.cell? ⟨G,2,none⟩=some (.int .i64 (fp:Int)):=HFX.out.cell 2 (by omega)
   have a3:W2.cell? ⟨G,3,none⟩=some (.int .i64 (fh:Int)):=HFX.out.cell 3 (by omega)
   have r1:W2.cell? ⟨b,1,none⟩=some (.slice (some ⟨A.g1,0,none⟩) n A.c1):=HMX.out.root.cell 1 (by omega)
   have p8:W2.cell? ⟨A.g1,c*9+8,none⟩=some (.bool false):=by rw[<-HOF.out];exact HMX.out.aC c 8 hc (by omega)
   have a0':∀o,(W2.alloc o).cell? ⟨G,0,none⟩=some (.bool true):=fun o=>(HFX.out.alloc o).cell 0 (by omega)
   have a1':∀o,(W2.alloc o).cell? ⟨G,1,none⟩=some (.int .i64 (fi:Int)):=fun o=>(HFX.out.alloc o).cell 1 (by omega)
   have a2':∀o,(W2.alloc o).cell? ⟨G,2,none⟩=some (.int .i64 (fp:Int)):=fun o=>(HFX.out.alloc o).cell 2 (by omega)
   have a3':∀o,(W2.alloc o).cell? ⟨G,3,none⟩=some (.int .i64 (fh:Int)):=fun o=>(HFX.out.alloc o).cell 3 (by omega)
   have r1':∀o,(W2.alloc o).cell? ⟨b,1,none⟩=some (.slice (some ⟨A.g1,0,none⟩) n A.c1):=fun o=>(HMX.out.alloc o).root.cell 1 (by omega)
   have p8':∀o,(W2.alloc o).cell? ⟨A.g1,c*9+8,none⟩=some (.bool false):=fun o=>by rw[<-HOF.out];exact (HMX.out.alloc o).aC c 8 hc (by omega)
   have hGl:G<W2.heap.size:=HFX.out.lt
   have hbl:b<W2.heap.size:=HMX.out.root.lt
   have oW:A.g1<W2.heap.size:=HMX.out.au.lt
   have hGn:W2.heap.size≠G:=by omega
   have hbn:W2.heap.size≠b:=by omega
   have Aa:W2.heap.size≠A.g1:=by omega
   go_region_held3 (fun W'=>W'.cell? ⟨G,0,none⟩=some (.bool true)/\W'.cell? ⟨G,1,none⟩=some (.int .i64 (fi:Int))/\W'.cell? ⟨G,2,none⟩=some (.int .i64 (fp:Int))/\W'.cell? ⟨G,3,none⟩=some (.int .i64 (fh:Int))/\W'.cell? ⟨b,1,none⟩=some (.slice (some ⟨A.g1,0,none⟩) n A.c1)/\W'.cell? ⟨A.g1,c*9+8,none⟩=some (.bool false)) (go_keep) (first|(go_at_call 95;refine (AL.out _).mono ?_;rintro e w2 ⟨rfl,hb2⟩;(first|(have g1:=hide (dw (g:=W2.heap.size) hb2 (heap_alloc_last W2 (.cells #[.bool false,.int .i64 0,.int .i64 0,.int .i64 0] 108)));have HB2:=hide (ak (((Below.refl _ W2).alloc (Nat.le_refl _) (.cells #[.bool false,.int .i64 0,.int .i64 0,.int .i64 0] 108)).drew) hb2);have z0:w2.cell? ⟨W2.heap.size,0,none⟩=some (.bool false):=aj g1.out rfl;have z1:w2.cell? ⟨W2.heap.size,1,none⟩=some (.int .i64 0):=aj g1.out rfl;have z2:w2.cell? ⟨W2.heap.size,2,none⟩=some (.int .i64 0):=aj g1.out rfl;have z3:w2.cell? ⟨W2.heap.size,3,none⟩=some (.int .i64 0):=aj g1.out rfl;have y0:=frozen_of_row w2 W2.heap.size 0 _ _ g1.out;have y1:=frozen_of_row w2 W2.heap.size 1 _ _ g1.out;have y2:=frozen_of_row w2 W2.heap.size 2 _ _ g1.out;have y3:=frozen_of_row w2 W2.heap.size 3 _ _ g1.out)|(have HB2:=hide (ak ((Below.refl _ W2).drew) hb2)));have k0:=(HB2.out.cell (p:=⟨G,0,none⟩) hGl).trans a0;have k1:=(HB2.out.cell (p:=⟨G,1,none⟩) hGl).trans a1;have k2:=(HB2.out.cell (p:=⟨G,2,none⟩) hGl).trans a2;have k3:=(HB2.out.cell (p:=⟨G,3,none⟩) hGl).trans a3;have k4:=(HB2.out.cell (p:=⟨b,1,none⟩) hbl).trans r1;have k5:=(HB2.out.cell (p:=⟨A.g1,c*9+8,none⟩) oW).trans p8))
   all_goals (go_wp2_with (first|(go_at_call 92;refine (nu _ N b A its n S c ⟨gt,gi,gp,gh⟩ (HMX.out.below (by first|exact (aL HB2.out _)|exact ((((HB2.out.setCell (p:=⟨W2.heap.size,0,none⟩) (Nat.le_refl _) _).setCell (p:=⟨W2.heap.size,1,none⟩) (Nat.le_refl _) _).setCell (p:=⟨W2.heap.size,2,none⟩) (Nat.le_refl _) _).setCell (p:=⟨W2.heap.size,3,none⟩) (Nat.le_refl _) _))) hc hn).mono ?_;rintro e w3 ⟨rfl,hm3,hk3⟩;have HM3:=hide hm3;have HK3:=hide ((Kp.of (ak HBX.out (by first|exact (aL HB2.out _)|exact ((((HB2.out.setCell (p:=⟨W2.heap.size,0,none⟩) (Nat.le_refl _) _).setCell (p:=⟨W2.heap.size,1,none⟩) (Nat.le_refl _) _).setCell (p:=⟨W2.heap.size,2,none⟩) (Nat.le_refl _) _).setCell (p:=⟨W2.heap.size,3,none⟩) (Nat.le_refl _) _)))).trans hk3);have s1:w3.cell? ⟨b,1,none⟩=some (.slice (some ⟨A.g1,0,none⟩) n A.c1):=hm3.root.cell 1 (by omega);obtain ⟨ov,s8⟩:∃v,w3.cell? ⟨A.g1,c*9+8,none⟩=some v:=⟨_,hm3.aC c 8 hc (by omega)⟩;have s9:=hm3.eD c 8;clear hm3 hk3)))
   all_goals (go_ret;exact ⟨rfl,HM3.out.aA c ro,HK3.out.set1 _ _⟩)
  ·go_enter Tryz.func62,Tryz.ntmps62
   go_wp2_with (first|(go_at_call 81;refine W1'.out.mono ?_;rintro e w1 ⟨rfl,hb1⟩;have HM1:=hide (HM.out.below hb1);have r0:∀o,(w1.alloc o).cell? ⟨b,0,none⟩=some (.slice A.ai its.length A.ci):=(fun o=>(HM1.out.alloc o).root.cell 0 (by omega));have r1:∀o,(w1.alloc o).cell? ⟨b,1,none⟩=some (.slice (some ⟨A.g1,0,none⟩) n A.c1):=(fun o=>(HM1.out.alloc o).root.cell 1 (by omega));have p4:∀o,(w1.alloc o).cell? ⟨A.g1,c*9+4,none⟩=some (.bool hd):=(fun o=>by rw[<-HHT.out];exact (HM1.out.alloc o).aC c 4 hc (by omega));have p8:∀o,(w1.alloc o).cell? ⟨A.g1,c*9+8,none⟩=some (.bool true):=(fun o=>by rw[<-HOF.out];exact (HM1.out.alloc o).aC c 8 hc (by omega));obtain ⟨g,hg,q1,_⟩:=HM1.out.bC fi hit;rw[hg] at r0;have q1':∀o,(w1.alloc o).cell? ⟨g,fi*2+1,none⟩=some (.string (Wd.mkS (ah its fi))):=(fun o=>by obtain ⟨g',hg',q',_⟩:=(HM1.out.alloc o).bC fi hit;rw[hg] at hg';cases hg';exact q');clear q1 hg)|(refine wpList_store_row rfl 108 _ _ rfl _ _ rfl rfl 108 _ (heap_alloc_last _ _) Tryz.iFrame rfl (dx ⟨true,fi,fp,fh⟩) ?_;rw[World.setRow_alloc_new]))
   go_quiet (fail)
   have HMW:=hide ((HM1.out.alloc (.cells #[.bool true,.int .i64 (fi:Int),.int .i64 (fp:Int),.int .i64 (fh:Int)] 108)).drewN nq)
   have HFW:=hide ((Blk.eB w1 ⟨true,fi,fp,fh⟩ 108).drewN nq)
   have HBW:=hide (below_drewN (aL hb1 (.cells #[.bool true,.int .i64 (fi:Int),.int .i64 (fp:Int),.int .i64 (fh:Int)] 108)) nq)
   clear r0 r1 p4 p8 q1'
   generalize (w1.alloc (.cells #[.bool true,.int .i64 (fi:Int),.int .i64 (fp:Int),.int .i64 (fh:Int)] 108)).drewN nq=W at *
   have a0:W.cell? ⟨w1.heap.size,0,none⟩=some (.bool true):=HFW.out.cell 0 (by omega)
   have a1:W.cell? ⟨w1.heap.size,1,none⟩=some (.int .i64 (fi:Int)):=HFW.out.cell 1 (by omega)
   have a2:W.cell? ⟨w1.heap.size,2,none⟩=some (.int .i64 (fp:Int)):=HFW.out.cell 2 (by omega)
   have a3:W.cell? ⟨w1.heap.size,3,none⟩=some (.int .i64 (fh:Int)):=HFW.out.cell 3 (by omega)
   have r1:W.cell? ⟨b,1,none⟩=some (.slice (some ⟨A.g1,0,none⟩) n A.c1):=HMW.out.root.cell 1 (by omega)
   have p8:W.cell? ⟨A.g1,c*9+8,none⟩=some (.bool true):=by rw[<-HOF.out];exact HMW.out.aC c 8 hc (by omega)
   generalize w1.heap.size=G at *
   generalize Wd.mkS (ah its fi)=sb at *
   go_wp2_with (first|(go_at_call 68;refine (AA.out _).mono ?_;rintro e w' ⟨rfl,hww⟩;obtain rfl:=hww.symm;clear hww)|(go_at_call 94;refine (AC.out _ HMW.out).mono ?_;rintro e W2 ⟨rfl,hb5⟩))
   have HMX:=hide (HMW.out.below hb5)
   have HFX:=hide (HFW.out.below hb5)
   have HBX:=hide (ak HBW.out hb5)
   clear HMW HFW HBW a0 a1 a2 a3 r1 p8 hb5
   have a0:W2.cell? ⟨G,0,none⟩=some (.bool true):=HFX.out.cell 0 (by omega)
   have a1:W2.cell? ⟨G,1,none⟩=some (.int .i64 (fi:Int)):=HFX.out.cell 1 (by omega)
   have a2:W2.cell? ⟨G,2,none⟩=some (.int .i64 (fp:Int)):=HFX.out.cell 2 (by omega)
   have a3:W2.cell? ⟨G,3,none⟩=some (.int .i64 (fh:Int)):=HFX.out.cell 3 (by omega)
   have r1:W2.cell? ⟨b,1,none⟩=some (.slice (some ⟨A.g1,0,none⟩) n A.c1):=HMX.out.root.cell 1 (by omega)
   have p8:W2.cell? ⟨A.g1,c*9+8,none⟩=some (.bool true):=by rw[<-HOF.out];exact HMX.out.aC c 8 hc (by omega)
   have a0':∀o,(W2.alloc o).cell? ⟨G,0,none⟩=some (.bool true):=fun o=>(HFX.out.alloc o).cell 0 (by omega)
   have a1':∀o,(W2.alloc o).cell? ⟨G,1,none⟩=some (.int .i64 (fi:Int)):=fun o=>(HFX.out.alloc o).cell 1 (by omega)
   have a2':∀o,(W2.alloc o).cell? ⟨G,2,none⟩=some (.int .i64 (fp:Int)):=fun o=>(HFX.out.alloc o).cell 2 (by omega)
   have a3':∀o,(W2.alloc o).cell? ⟨G,3,none⟩=some (.int .i64 (fh:Int)):=fun o=>(HFX.out.alloc o).cell 3 (by omega)
   have r1':∀o,(W2.alloc o).cell? ⟨b,1,none⟩=some (.slice (some ⟨A.g1,0,none⟩) n A.c1):=fun o=>(HMX.out.alloc o).root.cell 1 (by omega)
   have p8':∀o,(W2.alloc o).cell? ⟨A.g1,c*9+8,none⟩=some (.bool true):=fun o=>by rw[<-HOF.out];exact (HMX.out.alloc o).aC c 8 hc (by omega)
   have hGl:G<W2.heap.size:=HFX.out.lt
   have hbl:b<W2.heap.size:=HMX.out.root.lt
   have oW:A.g1<W2.heap.size:=HMX.out.au.lt
   have hGn:W2.heap.size≠G:=by omega
   have hbn:W2.heap.size≠b:=by omega
   have Aa:W2.heap.size≠A.g1:=by omega
   go_region_held3 (fun W'=>W'.cell? ⟨G,0,none⟩=some (.bool true)/\W'.cell? ⟨G,1,none⟩=some (.int .i64 (fi:Int))/\W'.cell? ⟨G,2,none⟩=some (.int .i64 (fp:Int))/\W'.cell? ⟨G,3,none⟩=some (.int .i64 (fh:Int))/\W'.cell? ⟨b,1,none⟩=some (.slice (some ⟨A.g1,0,none⟩) n A.c1)/\W'.cell? ⟨A.g1,c*9+8,none⟩=some (.bool true)) (go_keep) (first|(go_at_call 95;refine (AL.out _).mono ?_;rintro e w2 ⟨rfl,hb2⟩;(first|(have g1:=hide (dw (g:=W2.heap.size) hb2 (heap_alloc_last W2 (.cells #[.bool false,.int .i64 0,.int .i64 0,.int .i64 0] 108)));have HB2:=hide (ak (((Below.refl _ W2).alloc (Nat.le_refl _) (.cells #[.bool false,.int .i64 0,.int .i64 0,.int .i64 0] 108)).drew) hb2);have z0:w2.cell? ⟨W2.heap.size,0,none⟩=some (.bool false):=aj g1.out rfl;have z1:w2.cell? ⟨W2.heap.size,1,none⟩=some (.int .i64 0):=aj g1.out rfl;have z2:w2.cell? ⟨W2.heap.size,2,none⟩=some (.int .i64 0):=aj g1.out rfl;have z3:w2.cell? ⟨W2.heap.size,3,none⟩=some (.int .i64 0):=aj g1.out rfl;have y0:=frozen_of_row w2 W2.heap.size 0 _ _ g1.out;have y1:=frozen_of_row w2 W2.heap.size 1 _ _ g1.out;have y2:=frozen_of_row w2 W2.heap.size 2 _ _ g1.out;have y3:=frozen_of_row w2 W2.heap.size 3 _ _ g1.out)|(have HB2:=hide (ak ((Below.refl _ W2).drew) hb2)));have k0:=(HB2.out.cell (p:=⟨G,0,none⟩) hGl).trans a0;have k1:=(HB2.out.cell (p:=⟨G,1,none⟩) hGl).trans a1;have k2:=(HB2.out.cell (p:=⟨G,2,none⟩) hGl).trans a2;have k3:=(HB2.out.cell (p:=⟨G,3,none⟩) hGl).trans a3;have k4:=(HB2.out.cell (p:=⟨b,1,none⟩) hbl).trans r1;have k5:=(HB2.out.cell (p:=⟨A.g1,c*9+8,none⟩) oW).trans p8))
   all_goals (go_wp2_with (first|(go_at_call 92;refine (nu _ N b A its n S c ⟨gt,gi,gp,gh⟩ (HMX.out.below (by first|exact (aL HB2.out _)|exact ((((HB2.out.setCell (p:=⟨W2.heap.size,0,none⟩) (Nat.le_refl _) _).setCell (p:=⟨W2.heap.size,1,none⟩) (Nat.le_refl _) _).setCell (p:=⟨W2.heap.size,2,none⟩) (Nat.le_refl _) _).setCell (p:=⟨W2.heap.size,3,none⟩) (Nat.le_refl _) _))) hc hn).mono ?_;rintro e w3 ⟨rfl,hm3,hk3⟩;have HM3:=hide hm3;have HK3:=hide ((Kp.of (ak HBX.out (by first|exact (aL HB2.out _)|exact ((((HB2.out.setCell (p:=⟨W2.heap.size,0,none⟩) (Nat.le_refl _) _).setCell (p:=⟨W2.heap.size,1,none⟩) (Nat.le_refl _) _).setCell (p:=⟨W2.heap.size,2,none⟩) (Nat.le_refl _) _).setCell (p:=⟨W2.heap.size,3,none⟩) (Nat.le_refl _) _)))).trans hk3);have s1:w3.cell? ⟨b,1,none⟩=some (.slice (some ⟨A.g1,0,none⟩) n A.c1):=hm3.root.cell 1 (by omega);obtain ⟨ov,s8⟩:∃v,w3.cell? ⟨A.g1,c*9+8,none⟩=some v:=⟨_,hm3.aC c 8 hc (by omega)⟩;have s9:=hm3.eD c 8;clear hm3 hk3)))
   all_goals (go_ret;exact ⟨rfl,HM3.out.aA c ro,HK3.out.set1 _ _⟩))
end
end Go.Proofs.YtecmfdkhcffpmaaGreat
