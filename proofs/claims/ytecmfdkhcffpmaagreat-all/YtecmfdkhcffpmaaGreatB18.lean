/- MacK. -/
import Derived.Test.YtecmfdkhcffpmaaGreatB17
import Derived.Deep.RegionHeld3
namespace Go.Proofs.YtecmfdkhcffpmaaGreat
open Go.RowKit
set_option linter.unusedVariables false
set_option linter.unusedSimpArgs false
set_option linter.unusedSectionVars false
set_option maxHeartbeats 8000000
set_option maxRecDepth 100000
section
open Mc
theorem DM.drewN {w:World}{N b:Nat}{A:Ad}{its:List Wd.It}{n:Nat}{S:Ma}(h:DM w N b A its n S)(k:Nat):DM (w.drewN k) N b A its n S:=h.below (below_drewN (Below.refl _ _) k)
theorem Blk.drewN {w:World}{g n:Nat}{f:Nat->Value}(h:Blk w g n f)(k:Nat):Blk (w.drewN k) g n f:=h.below (below_drewN (Below.refl _ _) k)
theorem ng {its:List Wd.It}{n:Nat}{S:Ma}(hi:Inv its n S)(c:Nat)(hc:c<n):(works S c).held<64:=by
 unfold works
 split
 ·exact (hi.h c hc).held
 ·exact (hi.t c hc).held
theorem N7 (w:World)(N b:Nat)(A:Ad)(its:List Wd.It)(n:Nat)(S:Ma)(c:Nat)(second:Bool)(h:DM w N b A its n S)(hn:n<=3)(hc:c<n)(fi fp fh:Nat)(hwk:works S c=⟨false,fi,fp,fh⟩) :
  Calls Tryz.prog 62 #[.pointer (some ⟨b,0,none⟩),.int .i64 c,.bool second] w fun e w'=>e=.returned (.int .u8 (Mc.step its S n c second).1)/\DM w' N b A its n (Mc.step its S n c second).2/\Kp A w w':=by
 have W1:=j5 w N b A its n S c h hc hn
 have e:Mc.step its S n c second=(95,S):=by simp[Mc.step,hwk]
 rw[e]
 rw[hwk] at W1
 have W1':Hid (Calls Tryz.prog 81 #[.pointer (some ⟨b,0,none⟩),.int .i64 c] w fun e w'=>e=.returned (.agg #[.bool false,.int .i64 (fi:Int),.int .i64 (fp:Int),.int .i64 (fh:Int)])/\Below w.heap.size w w'):=hide W1
 have HM:=hide h
 clear h hwk W1 e
 go_enter Tryz.func62,Tryz.ntmps62
 go_wp2_with (first|(go_at_call 81;refine W1'.out.mono ?_;rintro e w1 ⟨rfl,hb1⟩)|(refine wpList_store_row rfl 108 _ _ rfl _ _ rfl rfl 108 _ (heap_alloc_last _ _) Tryz.iFrame rfl (dx ⟨false,fi,fp,fh⟩) ?_;rw[World.setRow_alloc_new]))
 go_ret
 exact ⟨rfl,(HM.out.below hb1).alloc _,Kp.of (aL hb1 _)⟩
theorem SQ (w:World)(N b:Nat)(A:Ad)(its:List Wd.It)(n:Nat)(S:Ma)(c:Nat)(second:Bool)(h:DM w N b A its n S)(ho:bf its)(hi:Inv its n S)(hn:n<=3)(hc:c<n)(fi fp fh:Nat)(hwk:works S c=⟨true,fi,fp,fh⟩)(hch:atB (ah its fi) fp=101)(hbad:0<fh\/((S.cp c).off&&!(S.cp c).h.there)=true) :
  Calls Tryz.prog 62 #[.pointer (some ⟨b,0,none⟩),.int .i64 c,.bool second] w fun e w'=>e=.returned (.int .u8 (Mc.step its S n c second).1)/\DM w' N b A its n (Mc.step its S n c second).2/\Kp A w w':=by
 have CA:=h.caps
 unfold maxLen at CA
 have hok:=lK hi c hc
 have hhe:=ng hi c hc
 have W1:=j5 w N b A its n S c h hc hn
 rw[hwk] at hok hhe W1
 obtain ⟨hit,fA⟩:=hok rfl
 have hpo:fp<=20000:=by have:=ho.body fi hit;simp only at fA;omega
 simp only at hit hhe
 have AA:=hide (fun W=>lq its ho fi fp W hit hpo)
 have e:Mc.step its S n c second=(69,S):=by simp only[Mc.step,hwk];rw[if_neg (by simp),if_pos hch,if_pos hbad]
 rw[e]
 rw[hch] at AA
 clear e hch
 have W1':Hid (Calls Tryz.prog 81 #[.pointer (some ⟨b,0,none⟩),.int .i64 c] w fun e w'=>e=.returned (.agg #[.bool true,.int .i64 (fi:Int),.int .i64 (fp:Int),.int .i64 (fh:Int)])/\Below w.heap.size w w'):=hide W1
 have HM:=hide h
 have HO:=hide ho
 have HI:=hide hi
 have HW:=hide hwk
 clear h ho hi hwk W1 hok fA
 generalize hHT:(S.cp c).h.there=hd at *
 generalize hOF:(S.cp c).off=of at *
 have HHT:=hide hHT
 have HOF:=hide hOF
 clear hHT hOF
 cases of
 ·go_enter Tryz.func62,Tryz.ntmps62
  go_wp2_with (first|(go_at_call 81;refine W1'.out.mono ?_;rintro e w1 ⟨rfl,hb1⟩;have HM1:=hide (HM.out.below hb1);have r0:∀o,(w1.alloc o).cell? ⟨b,0,none⟩=some (.slice A.ai its.length A.ci):=(fun o=>(HM1.out.alloc o).root.cell 0 (by omega));have r1:∀o,(w1.alloc o).cell? ⟨b,1,none⟩=some (.slice (some ⟨A.g1,0,none⟩) n A.c1):=(fun o=>(HM1.out.alloc o).root.cell 1 (by omega));have p4:∀o,(w1.alloc o).cell? ⟨A.g1,c*9+4,none⟩=some (.bool hd):=(fun o=>by rw[<-HHT.out];exact (HM1.out.alloc o).aC c 4 hc (by omega));have p8:∀o,(w1.alloc o).cell? ⟨A.g1,c*9+8,none⟩=some (.bool false):=(fun o=>by rw[<-HOF.out];exact (HM1.out.alloc o).aC c 8 hc (by omega));obtain ⟨g,hg,q1,_⟩:=HM1.out.bC fi hit;rw[hg] at r0;have q1':∀o,(w1.alloc o).cell? ⟨g,fi*2+1,none⟩=some (.string (Wd.mkS (ah its fi))):=(fun o=>by obtain ⟨g',hg',q',_⟩:=(HM1.out.alloc o).bC fi hit;rw[hg] at hg';cases hg';exact q');clear q1 hg)|(refine wpList_store_row rfl 108 _ _ rfl _ _ rfl rfl 108 _ (heap_alloc_last _ _) Tryz.iFrame rfl (dx ⟨true,fi,fp,fh⟩) ?_;rw[World.setRow_alloc_new]))
  go_quiet (fail)
  have HMW:=hide ((HM1.out.alloc (.cells #[.bool true,.int .i64 (fi:Int),.int .i64 (fp:Int),.int .i64 (fh:Int)] 108)).drewN nq)
  have HFW:=hide ((Blk.eB w1 ⟨true,fi,fp,fh⟩ 108).drewN nq)
  have HBW:=hide (below_drewN (aL hb1 (.cells #[.bool true,.int .i64 (fi:Int),.int .i64 (fp:Int),.int .i64 (fh:Int)] 108)) nq)
  clear r0 r1 p4 p8 q1'
  generalize (w1.alloc (.cells #[.bool true,.int .i64 (fi:Int),.int .i64 (fp:Int),.int .i64 (fh:Int)] 108)).drewN nq=W at *
  have a0:W.cell? ⟨w1.heap.size,0,none⟩=some (.bool true):=HFW.out.cell 0 (by omega)
  have a1:W.cell? ⟨w1.heap.size,1,none⟩=some (.int .i64 (fi:Int)):=HFW.out.cell 1 (by omega)
  have a2:W.cell? ⟨w1.heap.size,2,none⟩=some (.int .i64 (fp:Int)):=HFW.out.cell 2 (by omega)
  have a3:W.cell? ⟨w1.heap.size,3,none⟩=some (.int .i64 (fh:Int)):=HFW.out.cell 3 (by omega)
  have r1:W.cell? ⟨b,1,none⟩=some (.slice (some ⟨A.g1,0,none⟩) n A.c1):=HMW.out.root.cell 1 (by omega)
  have p8:W.cell? ⟨A.g1,c*9+8,none⟩=some (.bool false):=by rw[<-HOF.out];exact HMW.out.aC c 8 hc (by omega)
  generalize w1.heap.size=G at *
  generalize Wd.mkS (ah its fi)=sb at *
  all_goals (go_wp2_with (go_at_call 68;refine (AA.out _).mono ?_;rintro e w' ⟨rfl,rfl⟩))
  all_goals first|(exfalso;simp_all;done)|(exfalso;simp_all;omega)|skip
  all_goals (go_ret;exact ⟨rfl,HMW.out,Kp.of HBW.out⟩)
 ·go_enter Tryz.func62,Tryz.ntmps62
  go_wp2_with (first|(go_at_call 81;refine W1'.out.mono ?_;rintro e w1 ⟨rfl,hb1⟩;have HM1:=hide (HM.out.below hb1);have r0:∀o,(w1.alloc o).cell? ⟨b,0,none⟩=some (.slice A.ai its.length A.ci):=(fun o=>(HM1.out.alloc o).root.cell 0 (by omega));have r1:∀o,(w1.alloc o).cell? ⟨b,1,none⟩=some (.slice (some ⟨A.g1,0,none⟩) n A.c1):=(fun o=>(HM1.out.alloc o).root.cell 1 (by omega));have p4:∀o,(w1.alloc o).cell? ⟨A.g1,c*9+4,none⟩=some (.bool hd):=(fun o=>by rw[<-HHT.out];exact (HM1.out.alloc o).aC c 4 hc (by omega));have p8:∀o,(w1.alloc o).cell? ⟨A.g1,c*9+8,none⟩=some (.bool true):=(fun o=>by rw[<-HOF.out];exact (HM1.out.alloc o).aC c 8 hc (by omega));obtain ⟨g,hg,q1,_⟩:=HM1.out.bC fi hit;rw[hg] at r0;have q1':∀o,(w1.alloc o).cell? ⟨g,fi*2+1,none⟩=some (.string (Wd.mkS (ah its fi))):=(fun o=>by obtain ⟨g',hg',q',_⟩:=(HM1.out.alloc o).bC fi hit;rw[hg] at hg';cases hg';exact q');clear q1 hg)|(refine wpList_store_row rfl 108 _ _ rfl _ _ rfl rfl 108 _ (heap_alloc_last _ _) Tryz.iFrame rfl (dx ⟨true,fi,fp,fh⟩) ?_;rw[World.setRow_alloc_new]))
  go_quiet (fail)
  have HMW:=hide ((HM1.out.alloc (.cells #[.bool true,.int .i64 (fi:Int),.int .i64 (fp:Int),.int .i64 (fh:Int)] 108)).drewN nq)
  have HFW:=hide ((Blk.eB w1 ⟨true,fi,fp,fh⟩ 108).drewN nq)
  have HBW:=hide (below_drewN (aL hb1 (.cells #[.bool true,.int .i64 (fi:Int),.int .i64 (fp:Int),.int .i64 (fh:Int)] 108)) nq)
  clear r0 r1 p4 p8 q1'
  generalize (w1.alloc (.cells #[.bool true,.int .i64 (fi:Int),.int .i64 (fp:Int),.int .i64 (fh:Int)] 108)).drewN nq=W at *
  have a0:W.cell? ⟨w1.heap.size,0,none⟩=some (.bool true):=HFW.out.cell 0 (by omega)
  have a1:W.cell? ⟨w1.heap.size,1,none⟩=some (.int .i64 (fi:Int)):=HFW.out.cell 1 (by omega)
  have a2:W.cell? ⟨w1.heap.size,2,none⟩=some (.int .i64 (fp:Int)):=HFW.out.cell 2 (by omega)
  have a3:W.cell? ⟨w1.heap.size,3,none⟩=some (.int .i64 (fh:Int)):=HFW.out.cell 3 (by omega)
  have r1:W.cell? ⟨b,1,none⟩=some (.slice (some ⟨A.g1,0,none⟩) n A.c1):=HMW.out.root.cell 1 (by omega)
  have p8:W.cell? ⟨A.g1,c*9+8,none⟩=some (.bool true):=by rw[<-HOF.out];exact HMW.out.aC c 8 hc (by omega)
  generalize w1.heap.size=G at *
  generalize Wd.mkS (ah its fi)=sb at *
  all_goals (go_wp2_with (go_at_call 68;refine (AA.out _).mono ?_;rintro e w' ⟨rfl,rfl⟩))
  all_goals first|(exfalso;simp_all;done)|(exfalso;simp_all;omega)|skip
  all_goals (go_ret;exact ⟨rfl,HMW.out,Kp.of HBW.out⟩)
theorem SS (w:World)(N b:Nat)(A:Ad)(its:List Wd.It)(n:Nat)(S:Ma)(c:Nat)(second:Bool)(h:DM w N b A its n S)(ho:bf its)(hi:Inv its n S)(hn:n<=3)(hc:c<n)(fi fp fh:Nat)(hwk:works S c=⟨true,fi,fp,fh⟩)(hch:atB (ah its fi) fp=101)(hbad:¬(0<fh\/((S.cp c).off&&!(S.cp c).h.there)=true)) :
  Calls Tryz.prog 62 #[.pointer (some ⟨b,0,none⟩),.int .i64 c,.bool second] w fun e w'=>e=.returned (.int .u8 (Mc.step its S n c second).1)/\DM w' N b A its n (Mc.step its S n c second).2/\Kp A w w':=by
 have CA:=h.caps
 unfold maxLen at CA
 have hok:=lK hi c hc
 have hhe:=ng hi c hc
 have W1:=j5 w N b A its n S c h hc hn
 rw[hwk] at hok hhe W1
 obtain ⟨hit,fA⟩:=hok rfl
 have hpo:fp<=20000:=by have:=ho.body fi hit;simp only at fA;omega
 simp only at hit hhe
 have AA:=hide (fun W=>lq its ho fi fp W hit hpo)
 have e:Mc.step its S n c second=(101,put S c aH):=by simp only[Mc.step,hwk];rw[if_neg (by simp),if_pos hch,if_neg hbad]
 rw[e]
 rw[hch] at AA
 clear e hch
 have W1':Hid (Calls Tryz.prog 81 #[.pointer (some ⟨b,0,none⟩),.int .i64 c] w fun e w'=>e=.returned (.agg #[.bool true,.int .i64 (fi:Int),.int .i64 (fp:Int),.int .i64 (fh:Int)])/\Below w.heap.size w w'):=hide W1
 have HM:=hide h
 have HO:=hide ho
 have HI:=hide hi
 have HW:=hide hwk
 clear h ho hi hwk W1 hok fA
 generalize hHT:(S.cp c).h.there=hd at *
 generalize hOF:(S.cp c).off=of at *
 have HHT:=hide hHT
 have HOF:=hide hOF
 clear hHT hOF
 cases of
 ·go_enter Tryz.func62,Tryz.ntmps62
  go_wp2_with (first|(go_at_call 81;refine W1'.out.mono ?_;rintro e w1 ⟨rfl,hb1⟩;have HM1:=hide (HM.out.below hb1);have r0:∀o,(w1.alloc o).cell? ⟨b,0,none⟩=some (.slice A.ai its.length A.ci):=(fun o=>(HM1.out.alloc o).root.cell 0 (by omega));have r1:∀o,(w1.alloc o).cell? ⟨b,1,none⟩=some (.slice (some ⟨A.g1,0,none⟩) n A.c1):=(fun o=>(HM1.out.alloc o).root.cell 1 (by omega));have p4:∀o,(w1.alloc o).cell? ⟨A.g1,c*9+4,none⟩=some (.bool hd):=(fun o=>by rw[<-HHT.out];exact (HM1.out.alloc o).aC c 4 hc (by omega));have p8:∀o,(w1.alloc o).cell? ⟨A.g1,c*9+8,none⟩=some (.bool false):=(fun o=>by rw[<-HOF.out];exact (HM1.out.alloc o).aC c 8 hc (by omega));obtain ⟨g,hg,q1,_⟩:=HM1.out.bC fi hit;rw[hg] at r0;have q1':∀o,(w1.alloc o).cell? ⟨g,fi*2+1,none⟩=some (.string (Wd.mkS (ah its fi))):=(fun o=>by obtain ⟨g',hg',q',_⟩:=(HM1.out.alloc o).bC fi hit;rw[hg] at hg';cases hg';exact q');clear q1 hg)|(refine wpList_store_row rfl 108 _ _ rfl _ _ rfl rfl 108 _ (heap_alloc_last _ _) Tryz.iFrame rfl (dx ⟨true,fi,fp,fh⟩) ?_;rw[World.setRow_alloc_new]))
  go_quiet (fail)
  have HMW:=hide ((HM1.out.alloc (.cells #[.bool true,.int .i64 (fi:Int),.int .i64 (fp:Int),.int .i64 (fh:Int)] 108)).drewN nq)
  have HFW:=hide ((Blk.eB w1 ⟨true,fi,fp,fh⟩ 108).drewN nq)
  have HBW:=hide (below_drewN (aL hb1 (.cells #[.bool true,.int .i64 (fi:Int),.int .i64 (fp:Int),.int .i64 (fh:Int)] 108)) nq)
  clear r0 r1 p4 p8 q1'
  generalize (w1.alloc (.cells #[.bool true,.int .i64 (fi:Int),.int .i64 (fp:Int),.int .i64 (fh:Int)] 108)).drewN nq=W at *
  have a0:W.cell? ⟨w1.heap.size,0,none⟩=some (.bool true):=HFW.out.cell 0 (by omega)
  have a1:W.cell? ⟨w1.heap.size,1,none⟩=some (.int .i64 (fi:Int)):=HFW.out.cell 1 (by omega)
  have a2:W.cell? ⟨w1.heap.size,2,none⟩=some (.int .i64 (fp:Int)):=HFW.out.cell 2 (by omega)
  have a3:W.cell? ⟨w1.heap.size,3,none⟩=some (.int .i64 (fh:Int)):=HFW.out.cell 3 (by omega)
  have r1:W.cell? ⟨b,1,none⟩=some (.slice (some ⟨A.g1,0,none⟩) n A.c1):=HMW.out.root.cell 1 (by omega)
  have p8:W.cell? ⟨A.g1,c*9+8,none⟩=some (.bool false):=by rw[<-HOF.out];exact HMW.out.aC c 8 hc (by omega)
  generalize w1.heap.size=G at *
  generalize Wd.mkS (ah its fi)=sb at *
  all_goals (go_wp2_with (first|(go_at_call 68;refine (AA.out _).mono ?_;rintro e w' ⟨rfl,rfl⟩)|(go_at_call 92;refine (nu _ N b A its n S c aH HMW.out hc hn).mono ?_;rintro e w3 ⟨rfl,hm3,hk3⟩)))
  all_goals first|(exfalso;simp_all;done)|(exfalso;simp_all;omega)|skip
  all_goals (go_ret;exact ⟨rfl,hm3,(Kp.of HBW.out).trans hk3⟩)
 ·go_enter Tryz.func62,Tryz.ntmps62
  go_wp2_with (first|(go_at_call 81;refine W1'.out.mono ?_;rintro e w1 ⟨rfl,hb1⟩;have HM1:=hide (HM.out.below hb1);have r0:∀o,(w1.alloc o).cell? ⟨b,0,none⟩=some (.slice A.ai its.length A.ci):=(fun o=>(HM1.out.alloc o).root.cell 0 (by omega));have r1:∀o,(w1.alloc o).cell? ⟨b,1,none⟩=some (.slice (some ⟨A.g1,0,none⟩) n A.c1):=(fun o=>(HM1.out.alloc o).root.cell 1 (by omega));have p4:∀o,(w1.alloc o).cell? ⟨A.g1,c*9+4,none⟩=some (.bool hd):=(fun o=>by rw[<-HHT.out];exact (HM1.out.alloc o).aC c 4 hc (by omega));have p8:∀o,(w1.alloc o).cell? ⟨A.g1,c*9+8,none⟩=some (.bool true):=(fun o=>by rw[<-HOF.out];exact (HM1.out.alloc o).aC c 8 hc (by omega));obtain ⟨g,hg,q1,_⟩:=HM1.out.bC fi hit;rw[hg] at r0;have q1':∀o,(w1.alloc o).cell? ⟨g,fi*2+1,none⟩=some (.string (Wd.mkS (ah its fi))):=(fun o=>by obtain ⟨g',hg',q',_⟩:=(HM1.out.alloc o).bC fi hit;rw[hg] at hg';cases hg';exact q');clear q1 hg)|(refine wpList_store_row rfl 108 _ _ rfl _ _ rfl rfl 108 _ (heap_alloc_last _ _) Tryz.iFrame rfl (dx ⟨true,fi,fp,fh⟩) ?_;rw[World.setRow_alloc_new]))
  go_quiet (fail)
  have HMW:=hide ((HM1.out.alloc (.cells #[.bool true,.int .i64 (fi:Int),.int .i64 (fp:Int),.int .i64 (fh:Int)] 108)).drewN nq)
  have HFW:=hide ((Blk.eB w1 ⟨true,fi,fp,fh⟩ 108).drewN nq)
  have HBW:=hide (below_drewN (aL hb1 (.cells #[.bool true,.int .i64 (fi:Int),.int .i64 (fp:Int),.int .i64 (fh:Int)] 108)) nq)
  clear r0 r1 p4 p8 q1'
  generalize (w1.alloc (.cells #[.bool true,.int .i64 (fi:Int),.int .i64 (fp:Int),.int .i64 (fh:Int)] 108)).drewN nq=W at *
  have a0:W.cell? ⟨w1.heap.size,0,none⟩=some (.bool true):=HFW.out.cell 0 (by omega)
  have a1:W.cell? ⟨w1.heap.size,1,none⟩=some (.int .i64 (fi:Int)):=HFW.out.cell 1 (by omega)
  have a2:W.cell? ⟨w1.heap.size,2,none⟩=some (.int .i64 (fp:Int)):=HFW.out.cell 2 (by omega)
  have a3:W.cell? ⟨w1.heap.size,3,none⟩=some (.int .i64 (fh:Int)):=HFW.out.cell 3 (by omega)
  have r1:W.cell? ⟨b,1,none⟩=some (.slice (some ⟨A.g1,0,none⟩) n A.c1):=HMW.out.root.cell 1 (by omega)
  have p8:W.cell? ⟨A.g1,c*9+8,none⟩=some (.bool true):=by rw[<-HOF.out];exact HMW.out.aC c 8 hc (by omega)
  generalize w1.heap.size=G at *
  generalize Wd.mkS (ah its fi)=sb at *
  all_goals (go_wp2_with (first|(go_at_call 68;refine (AA.out _).mono ?_;rintro e w' ⟨rfl,rfl⟩)|(go_at_call 92;refine (nu _ N b A its n S c aH HMW.out hc hn).mono ?_;rintro e w3 ⟨rfl,hm3,hk3⟩)))
  all_goals first|(exfalso;simp_all;done)|(exfalso;simp_all;omega)|skip
  all_goals (go_ret;exact ⟨rfl,hm3,(Kp.of HBW.out).trans hk3⟩)
theorem SV (w:World)(N b:Nat)(A:Ad)(its:List Wd.It)(n:Nat)(S:Ma)(c:Nat)(second:Bool)(h:DM w N b A its n S)(ho:bf its)(hi:Inv its n S)(hn:n<=3)(hc:c<n)(fi fp fh:Nat)(hwk:works S c=⟨true,fi,fp,fh⟩)(hch:atB (ah its fi) fp=122)(hbad:(S.cp c).h.there=true\/0<fh\/((S.cp c).off&&!(S.cp c).h.there)=true) :
  Calls Tryz.prog 62 #[.pointer (some ⟨b,0,none⟩),.int .i64 c,.bool second] w fun e w'=>e=.returned (.int .u8 (Mc.step its S n c second).1)/\DM w' N b A its n (Mc.step its S n c second).2/\Kp A w w':=by
 have CA:=h.caps
 unfold maxLen at CA
 have hok:=lK hi c hc
 have hhe:=ng hi c hc
 have W1:=j5 w N b A its n S c h hc hn
 rw[hwk] at hok hhe W1
 obtain ⟨hit,fA⟩:=hok rfl
 have hpo:fp<=20000:=by have:=ho.body fi hit;simp only at fA;omega
 simp only at hit hhe
 have AA:=hide (fun W=>lq its ho fi fp W hit hpo)
 have e:Mc.step its S n c second=(83,S):=by simp only[Mc.step,hwk];rw[if_neg (by simp),if_neg (by rw[hch];decide),if_neg (by rw[hch];decide),if_pos hch,if_pos hbad]
 rw[e]
 rw[hch] at AA
 clear e hch
 have W1':Hid (Calls Tryz.prog 81 #[.pointer (some ⟨b,0,none⟩),.int .i64 c] w fun e w'=>e=.returned (.agg #[.bool true,.int .i64 (fi:Int),.int .i64 (fp:Int),.int .i64 (fh:Int)])/\Below w.heap.size w w'):=hide W1
 have HM:=hide h
 have HO:=hide ho
 have HI:=hide hi
 have HW:=hide hwk
 clear h ho hi hwk W1 hok fA
 generalize hHT:(S.cp c).h.there=hd at *
 generalize hOF:(S.cp c).off=of at *
 have HHT:=hide hHT
 have HOF:=hide hOF
 clear hHT hOF
 cases of
 ·go_enter Tryz.func62,Tryz.ntmps62
  go_wp2_with (first|(go_at_call 81;refine W1'.out.mono ?_;rintro e w1 ⟨rfl,hb1⟩;have HM1:=hide (HM.out.below hb1);have r0:∀o,(w1.alloc o).cell? ⟨b,0,none⟩=some (.slice A.ai its.length A.ci):=(fun o=>(HM1.out.alloc o).root.cell 0 (by omega));have r1:∀o,(w1.alloc o).cell? ⟨b,1,none⟩=some (.slice (some ⟨A.g1,0,none⟩) n A.c1):=(fun o=>(HM1.out.alloc o).root.cell 1 (by omega));have p4:∀o,(w1.alloc o).cell? ⟨A.g1,c*9+4,none⟩=some (.bool hd):=(fun o=>by rw[<-HHT.out];exact (HM1.out.alloc o).aC c 4 hc (by omega));have p8:∀o,(w1.alloc o).cell? ⟨A.g1,c*9+8,none⟩=some (.bool false):=(fun o=>by rw[<-HOF.out];exact (HM1.out.alloc o).aC c 8 hc (by omega));obtain ⟨g,hg,q1,_⟩:=HM1.out.bC fi hit;rw[hg] at r0;have q1':∀o,(w1.alloc o).cell? ⟨g,fi*2+1,none⟩=some (.string (Wd.mkS (ah its fi))):=(fun o=>by obtain ⟨g',hg',q',_⟩:=(HM1.out.alloc o).bC fi hit;rw[hg] at hg';cases hg';exact q');clear q1 hg)|(refine wpList_store_row rfl 108 _ _ rfl _ _ rfl rfl 108 _ (heap_alloc_last _ _) Tryz.iFrame rfl (dx ⟨true,fi,fp,fh⟩) ?_;rw[World.setRow_alloc_new]))
  go_quiet (fail)
  have HMW:=hide ((HM1.out.alloc (.cells #[.bool true,.int .i64 (fi:Int),.int .i64 (fp:Int),.int .i64 (fh:Int)] 108)).drewN nq)
  have HFW:=hide ((Blk.eB w1 ⟨true,fi,fp,fh⟩ 108).drewN nq)
  have HBW:=hide (below_drewN (aL hb1 (.cells #[.bool true,.int .i64 (fi:Int),.int .i64 (fp:Int),.int .i64 (fh:Int)] 108)) nq)
  clear r0 r1 p4 p8 q1'
  generalize (w1.alloc (.cells #[.bool true,.int .i64 (fi:Int),.int .i64 (fp:Int),.int .i64 (fh:Int)] 108)).drewN nq=W at *
  have a0:W.cell? ⟨w1.heap.size,0,none⟩=some (.bool true):=HFW.out.cell 0 (by omega)
  have a1:W.cell? ⟨w1.heap.size,1,none⟩=some (.int .i64 (fi:Int)):=HFW.out.cell 1 (by omega)
  have a2:W.cell? ⟨w1.heap.size,2,none⟩=some (.int .i64 (fp:Int)):=HFW.out.cell 2 (by omega)
  have a3:W.cell? ⟨w1.heap.size,3,none⟩=some (.int .i64 (fh:Int)):=HFW.out.cell 3 (by omega)
  have r1:W.cell? ⟨b,1,none⟩=some (.slice (some ⟨A.g1,0,none⟩) n A.c1):=HMW.out.root.cell 1 (by omega)
  have p8:W.cell? ⟨A.g1,c*9+8,none⟩=some (.bool false):=by rw[<-HOF.out];exact HMW.out.aC c 8 hc (by omega)
  generalize w1.heap.size=G at *
  generalize Wd.mkS (ah its fi)=sb at *
  all_goals (go_wp2_with (go_at_call 68;refine (AA.out _).mono ?_;rintro e w' ⟨rfl,rfl⟩))
  all_goals first|(exfalso;simp_all;done)|(exfalso;simp_all;omega)|skip
  all_goals (go_ret;exact ⟨rfl,HMW.out,Kp.of HBW.out⟩)
 ·go_enter Tryz.func62,Tryz.ntmps62
  go_wp2_with (first|(go_at_call 81;refine W1'.out.mono ?_;rintro e w1 ⟨rfl,hb1⟩;have HM1:=hide (HM.out.below hb1);have r0:∀o,(w1.alloc o).cell? ⟨b,0,none⟩=some (.slice A.ai its.length A.ci):=(fun o=>(HM1.out.alloc o).root.cell 0 (by omega));have r1:∀o,(w1.alloc o).cell? ⟨b,1,none⟩=some (.slice (some ⟨A.g1,0,none⟩) n A.c1):=(fun o=>(HM1.out.alloc o).root.cell 1 (by omega));have p4:∀o,(w1.alloc o).cell? ⟨A.g1,c*9+4,none⟩=some (.bool hd):=(fun o=>by rw[<-HHT.out];exact (HM1.out.alloc o).aC c 4 hc (by omega));have p8:∀o,(w1.alloc o).cell? ⟨A.g1,c*9+8,none⟩=some (.bool true):=(fun o=>by rw[<-HOF.out];exact (HM1.out.alloc o).aC c 8 hc (by omega));obtain ⟨g,hg,q1,_⟩:=HM1.out.bC fi hit;rw[hg] at r0;have q1':∀o,(w1.alloc o).cell? ⟨g,fi*2+1,none⟩=some (.string (Wd.mkS (ah its fi))):=(fun o=>by obtain ⟨g',hg',q',_⟩:=(HM1.out.alloc o).bC fi hit;rw[hg] at hg';cases hg';exact q');clear q1 hg)|(refine wpList_store_row rfl 108 _ _ rfl _ _ rfl rfl 108 _ (heap_alloc_last _ _) Tryz.iFrame rfl (dx ⟨true,fi,fp,fh⟩) ?_;rw[World.setRow_alloc_new]))
  go_quiet (fail)
  have HMW:=hide ((HM1.out.alloc (.cells #[.bool true,.int .i64 (fi:Int),.int .i64 (fp:Int),.int .i64 (fh:Int)] 108)).drewN nq)
  have HFW:=hide ((Blk.eB w1 ⟨true,fi,fp,fh⟩ 108).drewN nq)
  have HBW:=hide (below_drewN (aL hb1 (.cells #[.bool true,.int .i64 (fi:Int),.int .i64 (fp:Int),.int .i64 (fh:Int)] 108)) nq)
  clear r0 r1 p4 p8 q1'
  generalize (w1.alloc (.cells #[.bool true,.int .i64 (fi:Int),.int .i64 (fp:Int),.int .i64 (fh:Int)] 108)).drewN nq=W at *
  have a0:W.cell? ⟨w1.heap.size,0,none⟩=some (.bool true):=HFW.out.cell 0 (by omega)
  have a1:W.cell? ⟨w1.heap.size,1,none⟩=some (.int .i64 (fi:Int)):=HFW.out.cell 1 (by omega)
  have a2:W.cell? ⟨w1.heap.size,2,none⟩=some (.int .i64 (fp:Int)):=HFW.out.cell 2 (by omega)
  have a3:W.cell? ⟨w1.heap.size,3,none⟩=some (.int .i64 (fh:Int)):=HFW.out.cell 3 (by omega)
  have r1:W.cell? ⟨b,1,none⟩=some (.slice (some ⟨A.g1,0,none⟩) n A.c1):=HMW.out.root.cell 1 (by omega)
  have p8:W.cell? ⟨A.g1,c*9+8,none⟩=some (.bool true):=by rw[<-HOF.out];exact HMW.out.aC c 8 hc (by omega)
  generalize w1.heap.size=G at *
  generalize Wd.mkS (ah its fi)=sb at *
  all_goals (go_wp2_with (go_at_call 68;refine (AA.out _).mono ?_;rintro e w' ⟨rfl,rfl⟩))
  all_goals first|(exfalso;simp_all;done)|(exfalso;simp_all;omega)|skip
  all_goals (go_ret;exact ⟨rfl,HMW.out,Kp.of HBW.out⟩)
theorem SX (w:World)(N b:Nat)(A:Ad)(its:List Wd.It)(n:Nat)(S:Ma)(c:Nat)(second:Bool)(h:DM w N b A its n S)(ho:bf its)(hi:Inv its n S)(hn:n<=3)(hc:c<n)(fi fp fh:Nat)(hwk:works S c=⟨true,fi,fp,fh⟩)(hch:atB (ah its fi) fp=122)(hbad:¬((S.cp c).h.there=true\/0<fh\/((S.cp c).off&&!(S.cp c).h.there)=true)) :
  Calls Tryz.prog 62 #[.pointer (some ⟨b,0,none⟩),.int .i64 c,.bool second] w fun e w'=>e=.returned (.int .u8 (Mc.step its S n c second).1)/\DM w' N b A its n (Mc.step its S n c second).2/\Kp A w w':=by
 have CA:=h.caps
 unfold maxLen at CA
 have hok:=lK hi c hc
 have hhe:=ng hi c hc
 have W1:=j5 w N b A its n S c h hc hn
 rw[hwk] at hok hhe W1
 obtain ⟨hit,fA⟩:=hok rfl
 have hpo:fp<=20000:=by have:=ho.body fi hit;simp only at fA;omega
 simp only at hit hhe
 have AA:=hide (fun W=>lq its ho fi fp W hit hpo)
 have e:Mc.step its S n c second=(122,leaves S c (fp+1)):=by simp only[Mc.step,hwk];rw[if_neg (by simp),if_neg (by rw[hch];decide),if_neg (by rw[hch];decide),if_pos hch,if_neg hbad]
 rw[e]
 rw[hch] at AA
 have hti:(S.cp c).t.item<its.length:=by
  have:works S c=(S.cp c).t:=by unfold works;rw[if_neg (fun h=>hbad (Or.inl h))]
  rw[hwk] at this;rw[<-this];exact hit
 clear e hch
 have W1':Hid (Calls Tryz.prog 81 #[.pointer (some ⟨b,0,none⟩),.int .i64 c] w fun e w'=>e=.returned (.agg #[.bool true,.int .i64 (fi:Int),.int .i64 (fp:Int),.int .i64 (fh:Int)])/\Below w.heap.size w w'):=hide W1
 have HM:=hide h
 have HO:=hide ho
 have HI:=hide hi
 have HW:=hide hwk
 clear h ho hi hwk W1 hok fA
 generalize hHT:(S.cp c).h.there=hd at *
 generalize hOF:(S.cp c).off=of at *
 have HHT:=hide hHT
 have HOF:=hide hOF
 clear hHT hOF
 cases of
 ·go_enter Tryz.func62,Tryz.ntmps62
  go_wp2_with (first|(go_at_call 81;refine W1'.out.mono ?_;rintro e w1 ⟨rfl,hb1⟩;have HM1:=hide (HM.out.below hb1);have r0:∀o,(w1.alloc o).cell? ⟨b,0,none⟩=some (.slice A.ai its.length A.ci):=(fun o=>(HM1.out.alloc o).root.cell 0 (by omega));have r1:∀o,(w1.alloc o).cell? ⟨b,1,none⟩=some (.slice (some ⟨A.g1,0,none⟩) n A.c1):=(fun o=>(HM1.out.alloc o).root.cell 1 (by omega));have p4:∀o,(w1.alloc o).cell? ⟨A.g1,c*9+4,none⟩=some (.bool hd):=(fun o=>by rw[<-HHT.out];exact (HM1.out.alloc o).aC c 4 hc (by omega));have p8:∀o,(w1.alloc o).cell? ⟨A.g1,c*9+8,none⟩=some (.bool false):=(fun o=>by rw[<-HOF.out];exact (HM1.out.alloc o).aC c 8 hc (by omega));obtain ⟨g,hg,q1,_⟩:=HM1.out.bC fi hit;rw[hg] at r0;have q1':∀o,(w1.alloc o).cell? ⟨g,fi*2+1,none⟩=some (.string (Wd.mkS (ah its fi))):=(fun o=>by obtain ⟨g',hg',q',_⟩:=(HM1.out.alloc o).bC fi hit;rw[hg] at hg';cases hg';exact q');clear q1 hg)|(refine wpList_store_row rfl 108 _ _ rfl _ _ rfl rfl 108 _ (heap_alloc_last _ _) Tryz.iFrame rfl (dx ⟨true,fi,fp,fh⟩) ?_;rw[World.setRow_alloc_new]))
  go_quiet (fail)
  have HMW:=hide ((HM1.out.alloc (.cells #[.bool true,.int .i64 (fi:Int),.int .i64 (fp:Int),.int .i64 (fh:Int)] 108)).drewN nq)
  have HFW:=hide ((Blk.eB w1 ⟨true,fi,fp,fh⟩ 108).drewN nq)
  have HBW:=hide (below_drewN (aL hb1 (.cells #[.bool true,.int .i64 (fi:Int),.int .i64 (fp:Int),.int .i64 (fh:Int)] 108)) nq)
  clear r0 r1 p4 p8 q1'
  generalize (w1.alloc (.cells #[.bool true,.int .i64 (fi:Int),.int .i64 (fp:Int),.int .i64 (fh:Int)] 108)).drewN nq=W at *
  have a0:W.cell? ⟨w1.heap.size,0,none⟩=some (.bool true):=HFW.out.cell 0 (by omega)
  have a1:W.cell? ⟨w1.heap.size,1,none⟩=some (.int .i64 (fi:Int)):=HFW.out.cell 1 (by omega)
  have a2:W.cell? ⟨w1.heap.size,2,none⟩=some (.int .i64 (fp:Int)):=HFW.out.cell 2 (by omega)
  have a3:W.cell? ⟨w1.heap.size,3,none⟩=some (.int .i64 (fh:Int)):=HFW.out.cell 3 (by omega)
  have r1:W.cell? ⟨b,1,none⟩=some (.slice (some ⟨A.g1,0,none⟩) n A.c1):=HMW.out.root.cell 1 (by omega)
  have p8:W.cell? ⟨A.g1,c*9+8,none⟩=some (.bool false):=by rw[<-HOF.out];exact HMW.out.aC c 8 hc (by omega)
  generalize w1.heap.size=G at *
  generalize Wd.mkS (ah its fi)=sb at *
  all_goals (go_wp2_with (first|(go_at_call 68;refine (AA.out _).mono ?_;rintro e w' ⟨rfl,rfl⟩)|(go_at_call 64;refine (yg _ N b A its n S c (fp+1) HMW.out hc hn hti).mono ?_;rintro e w3 ⟨rfl,hm3,hk3⟩)))
  all_goals first|(exfalso;simp_all;done)|(exfalso;simp_all;omega)|skip
  all_goals (go_ret;exact ⟨rfl,hm3,(Kp.of HBW.out).trans hk3⟩)
 ·go_enter Tryz.func62,Tryz.ntmps62
  go_wp2_with (first|(go_at_call 81;refine W1'.out.mono ?_;rintro e w1 ⟨rfl,hb1⟩;have HM1:=hide (HM.out.below hb1);have r0:∀o,(w1.alloc o).cell? ⟨b,0,none⟩=some (.slice A.ai its.length A.ci):=(fun o=>(HM1.out.alloc o).root.cell 0 (by omega));have r1:∀o,(w1.alloc o).cell? ⟨b,1,none⟩=some (.slice (some ⟨A.g1,0,none⟩) n A.c1):=(fun o=>(HM1.out.alloc o).root.cell 1 (by omega));have p4:∀o,(w1.alloc o).cell? ⟨A.g1,c*9+4,none⟩=some (.bool hd):=(fun o=>by rw[<-HHT.out];exact (HM1.out.alloc o).aC c 4 hc (by omega));have p8:∀o,(w1.alloc o).cell? ⟨A.g1,c*9+8,none⟩=some (.bool true):=(fun o=>by rw[<-HOF.out];exact (HM1.out.alloc o).aC c 8 hc (by omega));obtain ⟨g,hg,q1,_⟩:=HM1.out.bC fi hit;rw[hg] at r0;have q1':∀o,(w1.alloc o).cell? ⟨g,fi*2+1,none⟩=some (.string (Wd.mkS (ah its fi))):=(fun o=>by obtain ⟨g',hg',q',_⟩:=(HM1.out.alloc o).bC fi hit;rw[hg] at hg';cases hg';exact q');clear q1 hg)|(refine wpList_store_row rfl 108 _ _ rfl _ _ rfl rfl 108 _ (heap_alloc_last _ _) Tryz.iFrame rfl (dx ⟨true,fi,fp,fh⟩) ?_;rw[World.setRow_alloc_new]))
  go_quiet (fail)
  have HMW:=hide ((HM1.out.alloc (.cells #[.bool true,.int .i64 (fi:Int),.int .i64 (fp:Int),.int .i64 (fh:Int)] 108)).drewN nq)
  have HFW:=hide ((Blk.eB w1 ⟨true,fi,fp,fh⟩ 108).drewN nq)
  have HBW:=hide (below_drewN (aL hb1 (.cells #[.bool true,.int .i64 (fi:Int),.int .i64 (fp:Int),.int .i64 (fh:Int)] 108)) nq)
  clear r0 r1 p4 p8 q1'
  generalize (w1.alloc (.cells #[.bool true,.int .i64 (fi:Int),.int .i64 (fp:Int),.int .i64 (fh:Int)] 108)).drewN nq=W at *
  have a0:W.cell? ⟨w1.heap.size,0,none⟩=some (.bool true):=HFW.out.cell 0 (by omega)
  have a1:W.cell? ⟨w1.heap.size,1,none⟩=some (.int .i64 (fi:Int)):=HFW.out.cell 1 (by omega)
  have a2:W.cell? ⟨w1.heap.size,2,none⟩=some (.int .i64 (fp:Int)):=HFW.out.cell 2 (by omega)
  have a3:W.cell? ⟨w1.heap.size,3,none⟩=some (.int .i64 (fh:Int)):=HFW.out.cell 3 (by omega)
  have r1:W.cell? ⟨b,1,none⟩=some (.slice (some ⟨A.g1,0,none⟩) n A.c1):=HMW.out.root.cell 1 (by omega)
  have p8:W.cell? ⟨A.g1,c*9+8,none⟩=some (.bool true):=by rw[<-HOF.out];exact HMW.out.aC c 8 hc (by omega)
  generalize w1.heap.size=G at *
  generalize Wd.mkS (ah its fi)=sb at *
  all_goals (go_wp2_with (first|(go_at_call 68;refine (AA.out _).mono ?_;rintro e w' ⟨rfl,rfl⟩)|(go_at_call 64;refine (yg _ N b A its n S c (fp+1) HMW.out hc hn hti).mono ?_;rintro e w3 ⟨rfl,hm3,hk3⟩)))
  all_goals first|(exfalso;simp_all;done)|(exfalso;simp_all;omega)|skip
  all_goals (go_ret;exact ⟨rfl,hm3,(Kp.of HBW.out).trans hk3⟩)
theorem SY (zc:Int)(hzc:zc=114\/zc=119)(w:World)(N b:Nat)(A:Ad)(its:List Wd.It)(n:Nat)(S:Ma)(c:Nat)(second:Bool)(h:DM w N b A its n S)(ho:bf its)(hi:Inv its n S)(hn:n<=3)(hc:c<n)(fi fp fh:Nat)(hwk:works S c=⟨true,fi,fp,fh⟩)(hch:atB (ah its fi) fp=zc)(hcl:clash its S n c ⟨true,fi,fp,fh⟩=true) :
  Calls Tryz.prog 62 #[.pointer (some ⟨b,0,none⟩),.int .i64 c,.bool second] w fun e w'=>e=.returned (.int .u8 (Mc.step its S n c second).1)/\DM w' N b A its n (Mc.step its S n c second).2/\Kp A w w':=by
 rcases hzc with rfl|rfl
 all_goals (
  have CA:=h.caps
  unfold maxLen at CA
  have hok:=lK hi c hc
  have hhe:=ng hi c hc
  have W1:=j5 w N b A its n S c h hc hn
  rw[hwk] at hok hhe W1
  obtain ⟨hit,fA⟩:=hok rfl
  have hpo:fp<=20000:=by have:=ho.body fi hit;simp only at fA;omega
  simp only at hit hhe
  have AA:=hide (fun W=>lq its ho fi fp W hit hpo)
  have e:Mc.step its S n c second=(82,S):=by simp only[Mc.step,hwk];rw[if_neg (by simp),if_neg (by rw[hch];decide),if_neg (by rw[hch];decide),if_neg (by rw[hch];decide),if_pos ⟨by simp[hch],hcl⟩]
  rw[e]
  have AC:=hide (fun W (hW:DM W N b A its n S)=>Ee W N b A its n S c ⟨true,fi,fp,fh⟩ hW ho hi hn hc hit hpo (by simp[hch]))
  rw[hcl] at AC
  rw[hch] at AA
  clear e hch hcl
  have W1':Hid (Calls Tryz.prog 81 #[.pointer (some ⟨b,0,none⟩),.int .i64 c] w fun e w'=>e=.returned (.agg #[.bool true,.int .i64 (fi:Int),.int .i64 (fp:Int),.int .i64 (fh:Int)])/\Below w.heap.size w w'):=hide W1
  have HM:=hide h
  have HO:=hide ho
  have HI:=hide hi
  have HW:=hide hwk
  clear h ho hi hwk W1 hok fA
  generalize hHT:(S.cp c).h.there=hd at *
  generalize hOF:(S.cp c).off=of at *
  have HHT:=hide hHT
  have HOF:=hide hOF
  clear hHT hOF
  cases of
  ·go_enter Tryz.func62,Tryz.ntmps62
   go_wp2_with (first|(go_at_call 81;refine W1'.out.mono ?_;rintro e w1 ⟨rfl,hb1⟩;have HM1:=hide (HM.out.below hb1);have r0:∀o,(w1.alloc o).cell? ⟨b,0,none⟩=some (.slice A.ai its.length A.ci):=(fun o=>(HM1.out.alloc o).root.cell 0 (by omega));have r1:∀o,(w1.alloc o).cell? ⟨b,1,none⟩=some (.slice (some ⟨A.g1,0,none⟩) n A.c1):=(fun o=>(HM1.out.alloc o).root.cell 1 (by omega));have p4:∀o,(w1.alloc o).cell? ⟨A.g1,c*9+4,none⟩=some (.bool hd):=(fun o=>by rw[<-HHT.out];exact (HM1.out.alloc o).aC c 4 hc (by omega));have p8:∀o,(w1.alloc o).cell? ⟨A.g1,c*9+8,none⟩=some (.bool false):=(fun o=>by rw[<-HOF.out];exact (HM1.out.alloc o).aC c 8 hc (by omega));obtain ⟨g,hg,q1,_⟩:=HM1.out.bC fi hit;rw[hg] at r0;have q1':∀o,(w1.alloc o).cell? ⟨g,fi*2+1,none⟩=some (.string (Wd.mkS (ah its fi))):=(fun o=>by obtain ⟨g',hg',q',_⟩:=(HM1.out.alloc o).bC fi hit;rw[hg] at hg';cases hg';exact q');clear q1 hg)|(refine wpList_store_row rfl 108 _ _ rfl _ _ rfl rfl 108 _ (heap_alloc_last _ _) Tryz.iFrame rfl (dx ⟨true,fi,fp,fh⟩) ?_;rw[World.setRow_alloc_new]))
   go_quiet (fail)
   have HMW:=hide ((HM1.out.alloc (.cells #[.bool true,.int .i64 (fi:Int),.int .i64 (fp:Int),.int .i64 (fh:Int)] 108)).drewN nq)
   have HFW:=hide ((Blk.eB w1 ⟨true,fi,fp,fh⟩ 108).drewN nq)
   have HBW:=hide (below_drewN (aL hb1 (.cells #[.bool true,.int .i64 (fi:Int),.int .i64 (fp:Int),.int .i64 (fh:Int)] 108)) nq)
   clear r0 r1 p4 p8 q1'
   generalize (w1.alloc (.cells #[.bool true,.int .i64 (fi:Int),.int .i64 (fp:Int),.int .i64 (fh:Int)] 108)).drewN nq=W at *
   have a0:W.cell? ⟨w1.heap.size,0,none⟩=some (.bool true):=HFW.out.cell 0 (by omega)
   have a1:W.cell? ⟨w1.heap.size,1,none⟩=some (.int .i64 (fi:Int)):=HFW.out.cell 1 (by omega)
   have a2:W.cell? ⟨w1.heap.size,2,none⟩=some (.int .i64 (fp:Int)):=HFW.out.cell 2 (by omega)
   have a3:W.cell? ⟨w1.heap.size,3,none⟩=some (.int .i64 (fh:Int)):=HFW.out.cell 3 (by omega)
   have r1:W.cell? ⟨b,1,none⟩=some (.slice (some ⟨A.g1,0,none⟩) n A.c1):=HMW.out.root.cell 1 (by omega)
   have p8:W.cell? ⟨A.g1,c*9+8,none⟩=some (.bool false):=by rw[<-HOF.out];exact HMW.out.aC c 8 hc (by omega)
   generalize w1.heap.size=G at *
   generalize Wd.mkS (ah its fi)=sb at *
   go_wp2_with (first|(go_at_call 68;refine (AA.out _).mono ?_;rintro e w' ⟨rfl,rfl⟩)|(go_at_call 94;refine (AC.out _ HMW.out).mono ?_;rintro e w3 ⟨rfl,hb3⟩))
   go_ret
   exact ⟨rfl,HMW.out.below hb3,Kp.of (ak HBW.out hb3)⟩
  ·go_enter Tryz.func62,Tryz.ntmps62
   go_wp2_with (first|(go_at_call 81;refine W1'.out.mono ?_;rintro e w1 ⟨rfl,hb1⟩;have HM1:=hide (HM.out.below hb1);have r0:∀o,(w1.alloc o).cell? ⟨b,0,none⟩=some (.slice A.ai its.length A.ci):=(fun o=>(HM1.out.alloc o).root.cell 0 (by omega));have r1:∀o,(w1.alloc o).cell? ⟨b,1,none⟩=some (.slice (some ⟨A.g1,0,none⟩) n A.c1):=(fun o=>(HM1.out.alloc o).root.cell 1 (by omega));have p4:∀o,(w1.alloc o).cell? ⟨A.g1,c*9+4,none⟩=some (.bool hd):=(fun o=>by rw[<-HHT.out];exact (HM1.out.alloc o).aC c 4 hc (by omega));have p8:∀o,(w1.alloc o).cell? ⟨A.g1,c*9+8,none⟩=some (.bool true):=(fun o=>by rw[<-HOF.out];exact (HM1.out.alloc o).aC c 8 hc (by omega));obtain ⟨g,hg,q1,_⟩:=HM1.out.bC fi hit;rw[hg] at r0;have q1':∀o,(w1.alloc o).cell? ⟨g,fi*2+1,none⟩=some (.string (Wd.mkS (ah its fi))):=(fun o=>by obtain ⟨g',hg',q',_⟩:=(HM1.out.alloc o).bC fi hit;rw[hg] at hg';cases hg';exact q');clear q1 hg)|(refine wpList_store_row rfl 108 _ _ rfl _ _ rfl rfl 108 _ (heap_alloc_last _ _) Tryz.iFrame rfl (dx ⟨true,fi,fp,fh⟩) ?_;rw[World.setRow_alloc_new]))
   go_quiet (fail)
   have HMW:=hide ((HM1.out.alloc (.cells #[.bool true,.int .i64 (fi:Int),.int .i64 (fp:Int),.int .i64 (fh:Int)] 108)).drewN nq)
   have HFW:=hide ((Blk.eB w1 ⟨true,fi,fp,fh⟩ 108).drewN nq)
   have HBW:=hide (below_drewN (aL hb1 (.cells #[.bool true,.int .i64 (fi:Int),.int .i64 (fp:Int),.int .i64 (fh:Int)] 108)) nq)
   clear r0 r1 p4 p8 q1'
   generalize (w1.alloc (.cells #[.bool true,.int .i64 (fi:Int),.int .i64 (fp:Int),.int .i64 (fh:Int)] 108)).drewN nq=W at *
   have a0:W.cell? ⟨w1.heap.size,0,none⟩=some (.bool true):=HFW.out.cell 0 (by omega)
   have a1:W.cell? ⟨w1.heap.size,1,none⟩=some (.int .i64 (fi:Int)):=HFW.out.cell 1 (by omega)
   have a2:W.cell? ⟨w1.heap.size,2,none⟩=some (.int .i64 (fp:Int)):=HFW.out.cell 2 (by omega)
   have a3:W.cell? ⟨w1.heap.size,3,none⟩=some (.int .i64 (fh:Int)):=HFW.out.cell 3 (by omega)
   have r1:W.cell? ⟨b,1,none⟩=some (.slice (some ⟨A.g1,0,none⟩) n A.c1):=HMW.out.root.cell 1 (by omega)
   have p8:W.cell? ⟨A.g1,c*9+8,none⟩=some (.bool true):=by rw[<-HOF.out];exact HMW.out.aC c 8 hc (by omega)
   generalize w1.heap.size=G at *
   generalize Wd.mkS (ah its fi)=sb at *
   go_wp2_with (first|(go_at_call 68;refine (AA.out _).mono ?_;rintro e w' ⟨rfl,rfl⟩)|(go_at_call 94;refine (AC.out _ HMW.out).mono ?_;rintro e w3 ⟨rfl,hb3⟩))
   go_ret
   exact ⟨rfl,HMW.out.below hb3,Kp.of (ak HBW.out hb3)⟩)
theorem S9 (w:World)(N b:Nat)(A:Ad)(its:List Wd.It)(n:Nat)(S:Ma)(c:Nat)(second:Bool)(h:DM w N b A its n S)(ho:bf its)(hi:Inv its n S)(hn:n<=3)(hc:c<n)(fi fp fh:Nat)(hwk:works S c=⟨true,fi,fp,fh⟩)(hch:atB (ah its fi) fp=43) :
  Calls Tryz.prog 62 #[.pointer (some ⟨b,0,none⟩),.int .i64 c,.bool second] w fun e w'=>e=.returned (.int .u8 (Mc.step its S n c second).1)/\DM w' N b A its n (Mc.step its S n c second).2/\Kp A w w':=by
 have CA:=h.caps
 unfold maxLen at CA
 have hok:=lK hi c hc
 have hhe:=ng hi c hc
 have W1:=j5 w N b A its n S c h hc hn
 rw[hwk] at hok hhe W1
 obtain ⟨hit,fA⟩:=hok rfl
 have hpo:fp<=20000:=by have:=ho.body fi hit;simp only at fA;omega
 simp only at hit hhe
 have AA:=hide (fun W=>lq its ho fi fp W hit hpo)
 have e:Mc.step its S n c second=((takes its S n c ⟨true,fi,fp,fh⟩ (num (ah its fi) fp).toNat).1,put S c (takes its S n c ⟨true,fi,fp,fh⟩ (num (ah its fi) fp).toNat).2):=by simp only[Mc.step,hwk];rw[if_neg (by simp),if_neg (by rw[hch];decide),if_pos hch]
 rw[e]
 have AN:=hide (fun W=>ru its ho fi fp W hit hpo (Or.inl hch))
 have hnl:=yY ho hit (Or.inl hch)
 have hcn:((num (ah its fi) fp).toNat:Int)=num (ah its fi) fp:=Int.toNat_of_nonneg hnl.1
 rw[<-hcn] at AN
 have hl5:(num (ah its fi) fp).toNat<=5:=by omega
 have AT:=hide (fun W (hW:DM W N b A its n S)=>NZ W N b A its n S c ⟨true,fi,fp,fh⟩ (num (ah its fi) fp).toNat hW ho hi hn hc hl5 (by simp only;omega) hpo)
 rw[hch] at AA
 clear e hch hcn hnl
 generalize (num (ah its fi) fp).toNat=nl at *
 generalize takes its S n c ⟨true,fi,fp,fh⟩ nl=r at *
 have W1':Hid (Calls Tryz.prog 81 #[.pointer (some ⟨b,0,none⟩),.int .i64 c] w fun e w'=>e=.returned (.agg #[.bool true,.int .i64 (fi:Int),.int .i64 (fp:Int),.int .i64 (fh:Int)])/\Below w.heap.size w w'):=hide W1
 have HM:=hide h
 have HO:=hide ho
 have HI:=hide hi
 have HW:=hide hwk
 clear h ho hi hwk W1 hok fA
 generalize hHT:(S.cp c).h.there=hd at *
 generalize hOF:(S.cp c).off=of at *
 have HHT:=hide hHT
 have HOF:=hide hOF
 clear hHT hOF
 cases of
 ·go_enter Tryz.func62,Tryz.ntmps62
  go_wp2_with (first|(go_at_call 81;refine W1'.out.mono ?_;rintro e w1 ⟨rfl,hb1⟩;have HM1:=hide (HM.out.below hb1);have r0:∀o,(w1.alloc o).cell? ⟨b,0,none⟩=some (.slice A.ai its.length A.ci):=(fun o=>(HM1.out.alloc o).root.cell 0 (by omega));have r1:∀o,(w1.alloc o).cell? ⟨b,1,none⟩=some (.slice (some ⟨A.g1,0,none⟩) n A.c1):=(fun o=>(HM1.out.alloc o).root.cell 1 (by omega));have p4:∀o,(w1.alloc o).cell? ⟨A.g1,c*9+4,none⟩=some (.bool hd):=(fun o=>by rw[<-HHT.out];exact (HM1.out.alloc o).aC c 4 hc (by omega));have p8:∀o,(w1.alloc o).cell? ⟨A.g1,c*9+8,none⟩=some (.bool false):=(fun o=>by rw[<-HOF.out];exact (HM1.out.alloc o).aC c 8 hc (by omega));obtain ⟨g,hg,q1,_⟩:=HM1.out.bC fi hit;rw[hg] at r0;have q1':∀o,(w1.alloc o).cell? ⟨g,fi*2+1,none⟩=some (.string (Wd.mkS (ah its fi))):=(fun o=>by obtain ⟨g',hg',q',_⟩:=(HM1.out.alloc o).bC fi hit;rw[hg] at hg';cases hg';exact q');clear q1 hg)|(refine wpList_store_row rfl 108 _ _ rfl _ _ rfl rfl 108 _ (heap_alloc_last _ _) Tryz.iFrame rfl (dx ⟨true,fi,fp,fh⟩) ?_;rw[World.setRow_alloc_new]))
  go_quiet (fail)
  have HMW:=hide ((HM1.out.alloc (.cells #[.bool true,.int .i64 (fi:Int),.int .i64 (fp:Int),.int .i64 (fh:Int)] 108)).drewN nq)
  have HFW:=hide ((Blk.eB w1 ⟨true,fi,fp,fh⟩ 108).drewN nq)
  have HBW:=hide (below_drewN (aL hb1 (.cells #[.bool true,.int .i64 (fi:Int),.int .i64 (fp:Int),.int .i64 (fh:Int)] 108)) nq)
  clear r0 r1 p4 p8 q1'
  generalize (w1.alloc (.cells #[.bool true,.int .i64 (fi:Int),.int .i64 (fp:Int),.int .i64 (fh:Int)] 108)).drewN nq=W at *
  have a0:W.cell? ⟨w1.heap.size,0,none⟩=some (.bool true):=HFW.out.cell 0 (by omega)
  have a1:W.cell? ⟨w1.heap.size,1,none⟩=some (.int .i64 (fi:Int)):=HFW.out.cell 1 (by omega)
  have a2:W.cell? ⟨w1.heap.size,2,none⟩=some (.int .i64 (fp:Int)):=HFW.out.cell 2 (by omega)
  have a3:W.cell? ⟨w1.heap.size,3,none⟩=some (.int .i64 (fh:Int)):=HFW.out.cell 3 (by omega)
  have r1:W.cell? ⟨b,1,none⟩=some (.slice (some ⟨A.g1,0,none⟩) n A.c1):=HMW.out.root.cell 1 (by omega)
  have p8:W.cell? ⟨A.g1,c*9+8,none⟩=some (.bool false):=by rw[<-HOF.out];exact HMW.out.aC c 8 hc (by omega)
  generalize w1.heap.size=G at *
  generalize Wd.mkS (ah its fi)=sb at *
  go_wp2_with (first|(go_at_call 68;refine (AA.out _).mono ?_;rintro e w' ⟨rfl,rfl⟩)|(go_at_call 69;refine (AN.out _).mono ?_;rintro e w' ⟨rfl,rfl⟩)|(go_at_call 93;refine (AT.out _ HMW.out).mono ?_;rintro e w2 ⟨rfl,hb2⟩;have HM2:=hide (HMW.out.below hb2))|(refine wpList_store_row rfl 108 _ _ rfl _ _ rfl rfl 108 _ (heap_alloc_last _ _) Tryz.iFrame rfl (dx r.2) ?_;rw[World.setRow_alloc_new])|(refine wpList_load_row rfl 108 _ rfl _ rfl 108 _ (0,0) _ (heap_alloc_last _ _) Tryz.underlying108 rfl Tryz.iFrame ?_)|(go_at_call 92;refine (nu _ N b A its n S c r.2 (HM2.out.alloc _) hc hn).mono ?_;rintro e w3 ⟨rfl,hm3,hk3⟩))
  go_ret
  exact ⟨rfl,hm3,(Kp.of (aL (ak HBW.out hb2) _)).trans hk3⟩
 ·go_enter Tryz.func62,Tryz.ntmps62
  go_wp2_with (first|(go_at_call 81;refine W1'.out.mono ?_;rintro e w1 ⟨rfl,hb1⟩;have HM1:=hide (HM.out.below hb1);have r0:∀o,(w1.alloc o).cell? ⟨b,0,none⟩=some (.slice A.ai its.length A.ci):=(fun o=>(HM1.out.alloc o).root.cell 0 (by omega));have r1:∀o,(w1.alloc o).cell? ⟨b,1,none⟩=some (.slice (some ⟨A.g1,0,none⟩) n A.c1):=(fun o=>(HM1.out.alloc o).root.cell 1 (by omega));have p4:∀o,(w1.alloc o).cell? ⟨A.g1,c*9+4,none⟩=some (.bool hd):=(fun o=>by rw[<-HHT.out];exact (HM1.out.alloc o).aC c 4 hc (by omega));have p8:∀o,(w1.alloc o).cell? ⟨A.g1,c*9+8,none⟩=some (.bool true):=(fun o=>by rw[<-HOF.out];exact (HM1.out.alloc o).aC c 8 hc (by omega));obtain ⟨g,hg,q1,_⟩:=HM1.out.bC fi hit;rw[hg] at r0;have q1':∀o,(w1.alloc o).cell? ⟨g,fi*2+1,none⟩=some (.string (Wd.mkS (ah its fi))):=(fun o=>by obtain ⟨g',hg',q',_⟩:=(HM1.out.alloc o).bC fi hit;rw[hg] at hg';cases hg';exact q');clear q1 hg)|(refine wpList_store_row rfl 108 _ _ rfl _ _ rfl rfl 108 _ (heap_alloc_last _ _) Tryz.iFrame rfl (dx ⟨true,fi,fp,fh⟩) ?_;rw[World.setRow_alloc_new]))
  go_quiet (fail)
  have HMW:=hide ((HM1.out.alloc (.cells #[.bool true,.int .i64 (fi:Int),.int .i64 (fp:Int),.int .i64 (fh:Int)] 108)).drewN nq)
  have HFW:=hide ((Blk.eB w1 ⟨true,fi,fp,fh⟩ 108).drewN nq)
  have HBW:=hide (below_drewN (aL hb1 (.cells #[.bool true,.int .i64 (fi:Int),.int .i64 (fp:Int),.int .i64 (fh:Int)] 108)) nq)
  clear r0 r1 p4 p8 q1'
  generalize (w1.alloc (.cells #[.bool true,.int .i64 (fi:Int),.int .i64 (fp:Int),.int .i64 (fh:Int)] 108)).drewN nq=W at *
  have a0:W.cell? ⟨w1.heap.size,0,none⟩=some (.bool true):=HFW.out.cell 0 (by omega)
  have a1:W.cell? ⟨w1.heap.size,1,none⟩=some (.int .i64 (fi:Int)):=HFW.out.cell 1 (by omega)
  have a2:W.cell? ⟨w1.heap.size,2,none⟩=some (.int .i64 (fp:Int)):=HFW.out.cell 2 (by omega)
  have a3:W.cell? ⟨w1.heap.size,3,none⟩=some (.int .i64 (fh:Int)):=HFW.out.cell 3 (by omega)
  have r1:W.cell? ⟨b,1,none⟩=some (.slice (some ⟨A.g1,0,none⟩) n A.c1):=HMW.out.root.cell 1 (by omega)
  have p8:W.cell? ⟨A.g1,c*9+8,none⟩=some (.bool true):=by rw[<-HOF.out];exact HMW.out.aC c 8 hc (by omega)
  generalize w1.heap.size=G at *
  generalize Wd.mkS (ah its fi)=sb at *
  go_wp2_with (first|(go_at_call 68;refine (AA.out _).mono ?_;rintro e w' ⟨rfl,rfl⟩)|(go_at_call 69;refine (AN.out _).mono ?_;rintro e w' ⟨rfl,rfl⟩)|(go_at_call 93;refine (AT.out _ HMW.out).mono ?_;rintro e w2 ⟨rfl,hb2⟩;have HM2:=hide (HMW.out.below hb2))|(refine wpList_store_row rfl 108 _ _ rfl _ _ rfl rfl 108 _ (heap_alloc_last _ _) Tryz.iFrame rfl (dx r.2) ?_;rw[World.setRow_alloc_new])|(refine wpList_load_row rfl 108 _ rfl _ rfl 108 _ (0,0) _ (heap_alloc_last _ _) Tryz.underlying108 rfl Tryz.iFrame ?_)|(go_at_call 92;refine (nu _ N b A its n S c r.2 (HM2.out.alloc _) hc hn).mono ?_;rintro e w3 ⟨rfl,hm3,hk3⟩))
  go_ret
  exact ⟨rfl,hm3,(Kp.of (aL (ak HBW.out hb2) _)).trans hk3⟩
end
end Go.Proofs.YtecmfdkhcffpmaaGreat
