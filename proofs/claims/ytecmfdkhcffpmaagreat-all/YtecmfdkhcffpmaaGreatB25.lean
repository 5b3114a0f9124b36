/- ProgC, ProgD, ProgE, RowK. -/
import Derived.Test.YtecmfdkhcffpmaaGreatB24
import Derived.Test.YtecmfdkhcffpmaaGreatB14
namespace Go.Proofs.YtecmfdkhcffpmaaGreat
open Go.RowKit
set_option linter.unusedVariables false
set_option linter.unusedSimpArgs false
set_option linter.unusedSectionVars false
set_option maxHeartbeats 8000000
set_option maxRecDepth 100000
section
open Mc
theorem iF (hd:Bool)(s:ByteArray)(la:Option Addr)(ln lc p:Nat)(w:World)(hs:s.size<=10000)(hp:p<=20000) :
  Calls Tryz.prog 105 #[.agg #[.bool hd,.string s,.slice la ln lc],.int .i64 p] w fun e w'=>e=.returned (.int .u8 (atB s.data.toList p))/\Below w.heap.size w w':=by
 by_cases h:p<s.size
 ·rw[zF s p h]
  go_enter Tryz.func105,Tryz.ntmps105
  go_wp2
  all_goals first|(exfalso;omega)|(go_ret;exact ⟨rfl,(Below.refl _ _).alloc (Nat.le_refl _) _⟩)
 ·rw[zl s p h]
  go_enter Tryz.func105,Tryz.ntmps105
  go_wp2
  all_goals first|(exfalso;omega)|(go_ret;exact ⟨rfl,(Below.refl _ _).alloc (Nat.le_refl _) _⟩)
theorem pO (hd:Bool)(s:ByteArray)(la:Option Addr)(ln lc p:Nat)(w:World)(hs:s.size<=10000)(hp:p<=20000)(hok:bG s.data.toList) :
  Calls Tryz.prog 129 #[.agg #[.bool hd,.string s,.slice la ln lc],.int .i64 p] w fun e w'=>e=.returned (.int .i64 (aW s.data.toList p))/\Below w.heap.size w w':=by
 by_cases h:p+1<s.size
 ·have hp':p<s.size:=by omega
  have hk:=hok p (by rw[Wd.aI];exact hp')
  rw[Wd.aI,<-Wd.dz s p hp',<-Wd.dz s (p+1) h] at hk
  have e0:atB s.data.toList p=((s[p].toNat:Nat):Int):=zF s p hp'
  have en:num s.data.toList p=if 97<=((s[p+1].toNat:Nat):Int) then ((s[p+1].toNat:Nat):Int)-97 else ((s[p+1].toNat:Nat):Int)-48:=by
   rw[num,Wd.aI,if_pos h,<-Wd.dz s (p+1) h]
  have hb:=Wd.iL s.data.toList (p+1)
  have hb2:=Wd.iD s.data.toList (p+1)
  rw[<-Wd.dz s (p+1) h] at hb hb2
  unfold aW
  rw[e0,en]
  clear e0 en hok
  have hpi:(p:Int)+1<(s.size:Int):=by omega
  by_cases hv:((s[p].toNat:Nat):Int)=43
  ·have hz:=hk.1 (by rw[hv];decide)
   have hif:(((s[p+1].toNat:Nat):Int)-97)=(if 97<=((s[p+1].toNat:Nat):Int) then ((s[p+1].toNat:Nat):Int)-97 else ((s[p+1].toNat:Nat):Int)-48):=by split<;>omega
   rw[if_pos (by rw[hv];decide),<-hif]
   have n43:(((s[p].toNat:Nat):Int)==43)=true:=by rw[hv];rfl
   have n45:(((s[p].toNat:Nat):Int)==45)=false:=by rw[hv];rfl
   have n114:(((s[p].toNat:Nat):Int)==114)=false:=by rw[hv];rfl
   have n119:(((s[p].toNat:Nat):Int)==119)=false:=by rw[hv];rfl
   have hw:IntKind.i64.wrap (((s[p+1].toNat:Nat):Int)-97)=((s[p+1].toNat:Nat):Int)-97:=by rw[IntKind.wrap_i64];omega
   clear hif hv hk
   go_enter Tryz.func129,Tryz.ntmps129
   go_wp2
   all_goals first|(exfalso;omega)|(go_ret;exact ⟨rfl,(Below.refl _ _).alloc (Nat.le_refl _) _⟩)
  have n43:(((s[p].toNat:Nat):Int)==43)=false:=by simp;omega
  by_cases hv:((s[p].toNat:Nat):Int)=45
  ·have hz:=hk.1 (by rw[hv];decide)
   have hif:(((s[p+1].toNat:Nat):Int)-97)=(if 97<=((s[p+1].toNat:Nat):Int) then ((s[p+1].toNat:Nat):Int)-97 else ((s[p+1].toNat:Nat):Int)-48):=by split<;>omega
   rw[if_pos (by rw[hv];decide),<-hif]
   have n43:(((s[p].toNat:Nat):Int)==43)=false:=by rw[hv];rfl
   have n45:(((s[p].toNat:Nat):Int)==45)=true:=by rw[hv];rfl
   have n114:(((s[p].toNat:Nat):Int)==114)=false:=by rw[hv];rfl
   have n119:(((s[p].toNat:Nat):Int)==119)=false:=by rw[hv];rfl
   have hw:IntKind.i64.wrap (((s[p+1].toNat:Nat):Int)-97)=((s[p+1].toNat:Nat):Int)-97:=by rw[IntKind.wrap_i64];omega
   clear hif hv hk
   go_enter Tryz.func129,Tryz.ntmps129
   go_wp2
   all_goals first|(exfalso;omega)|(go_ret;exact ⟨rfl,(Below.refl _ _).alloc (Nat.le_refl _) _⟩)
  have n45:(((s[p].toNat:Nat):Int)==45)=false:=by simp;omega
  by_cases hv:((s[p].toNat:Nat):Int)=114
  ·have hz:=hk.2 (by rw[hv];decide)
   have hif:(((s[p+1].toNat:Nat):Int)-48)=(if 97<=((s[p+1].toNat:Nat):Int) then ((s[p+1].toNat:Nat):Int)-97 else ((s[p+1].toNat:Nat):Int)-48):=by split<;>omega
   rw[if_pos (by rw[hv];decide),<-hif]
   have n43:(((s[p].toNat:Nat):Int)==43)=false:=by rw[hv];rfl
   have n45:(((s[p].toNat:Nat):Int)==45)=false:=by rw[hv];rfl
   have n114:(((s[p].toNat:Nat):Int)==114)=true:=by rw[hv];rfl
   have n119:(((s[p].toNat:Nat):Int)==119)=false:=by rw[hv];rfl
   have hw:IntKind.i64.wrap (((s[p+1].toNat:Nat):Int)-48)=((s[p+1].toNat:Nat):Int)-48:=by rw[IntKind.wrap_i64];omega
   clear hif hv hk
   go_enter Tryz.func129,Tryz.ntmps129
   go_wp2
   all_goals first|(exfalso;omega)|(go_ret;exact ⟨rfl,(Below.refl _ _).alloc (Nat.le_refl _) _⟩)
  have n114:(((s[p].toNat:Nat):Int)==114)=false:=by simp;omega
  by_cases hv:((s[p].toNat:Nat):Int)=119
  ·have hz:=hk.2 (by rw[hv];decide)
   have hif:(((s[p+1].toNat:Nat):Int)-48)=(if 97<=((s[p+1].toNat:Nat):Int) then ((s[p+1].toNat:Nat):Int)-97 else ((s[p+1].toNat:Nat):Int)-48):=by split<;>omega
   rw[if_pos (by rw[hv];decide),<-hif]
   have n43:(((s[p].toNat:Nat):Int)==43)=false:=by rw[hv];rfl
   have n45:(((s[p].toNat:Nat):Int)==45)=false:=by rw[hv];rfl
   have n114:(((s[p].toNat:Nat):Int)==114)=false:=by rw[hv];rfl
   have n119:(((s[p].toNat:Nat):Int)==119)=true:=by rw[hv];rfl
   have hw:IntKind.i64.wrap (((s[p+1].toNat:Nat):Int)-48)=((s[p+1].toNat:Nat):Int)-48:=by rw[IntKind.wrap_i64];omega
   clear hif hv hk
   go_enter Tryz.func129,Tryz.ntmps129
   go_wp2
   all_goals first|(exfalso;omega)|(go_ret;exact ⟨rfl,(Below.refl _ _).alloc (Nat.le_refl _) _⟩)
  have n119:(((s[p].toNat:Nat):Int)==119)=false:=by simp;omega
  rw[if_neg (by simp at n43 n45 n114 n119;omega)]
  clear hk
  go_enter Tryz.func129,Tryz.ntmps129
  go_wp2
  all_goals first|(exfalso;omega)|(go_ret;exact ⟨rfl,(Below.refl _ _).alloc (Nat.le_refl _) _⟩)
 ·have e:aW s.data.toList p=-1:=by
   unfold aW
   rw[if_neg]
   intro hc
   have hp':p<s.data.toList.length:=kG (by rcases hc with e|e|e|e<;>rw[e]<;>decide)
   have hk:=hok p hp'
   rw[Wd.aI] at hk
   simp only[atB,hp',if_true] at hc
   rcases hc with e|e|e|e
   ·have:=(hk.1 (Or.inl e)).1;omega
   ·have:=(hk.1 (Or.inr e)).1;omega
   ·have:=(hk.2 (Or.inl e)).1;omega
   ·have:=(hk.2 (Or.inr e)).1;omega
  rw[e]
  clear e hok
  go_enter Tryz.func129,Tryz.ntmps129
  go_wp2
  all_goals first|(exfalso;omega)|(go_ret;exact ⟨rfl,(Below.refl _ _).alloc (Nat.le_refl _) _⟩)
end
section
open Mc
theorem Um {w:World}{g:Nat}{t:TypeId}{a b c:Value}(h:w.heap[g]?=some (.cells #[a,b,c] t (0,0)))(a' b' c':Value) :
  (((w.setCell ⟨g,0,none⟩ a').setCell ⟨g,1,none⟩ b').setCell ⟨g,2,none⟩ c').heap[g]?=some (.cells #[a',b',c'] t (0,0)) :=
 heap_setCell_same _ _ _ _ _ _ (heap_setCell_same _ _ _ _ _ _ (heap_setCell_same _ _ _ _ _ _ h))
theorem Tryz.iCode:(Tryz.prog.info? 88).map (·.size)=some 3:=by kernel_rfl
theorem FT (hd:Bool)(s:ByteArray)(w:World)(hs:s.size<=1000) :
  Calls Tryz.prog 89 #[.agg #[.bool hd,.string s]] w fun e w'=>∃g,e=.returned (.agg #[.bool hd,.string s,.slice (some ⟨g,0,none⟩) s.size s.size])/\w.heap.size<=g/\Blk w' g s.size (fun i=>.int .i64 ((leads s.data.toList i:Nat):Int))/\Below w.heap.size w w':=by
 have AL:=hide (fun W=>KF s W hs)
 go_enter Tryz.func89,Tryz.ntmps89
 go_wp2_with fail
 have HT:=hide (heap_alloc2_new w (.cells #[.bool hd,.string s] 37) (.cells #[.bool false,.string ⟨#[]⟩,.slice none 0 0] 88))
 have HI:=hide (heap_alloc2_old w (.cells #[.bool hd,.string s] 37) (.cells #[.bool false,.string ⟨#[]⟩,.slice none 0 0] 88))
 have HB:=hide (((Below.refl _ w).alloc (Nat.le_refl _) (.cells #[.bool hd,.string s] 37)).alloc (by simp) (.cells #[.bool false,.string ⟨#[]⟩,.slice none 0 0] 88))
 generalize (w.alloc (.cells #[.bool hd,.string s] 37)).alloc (.cells #[.bool false,.string ⟨#[]⟩,.slice none 0 0] 88)=W at *
 have a0:W.cell? ⟨w.heap.size,0,none⟩=some (.bool hd):=aj HI.out rfl
 have a1:W.cell? ⟨w.heap.size,1,none⟩=some (.string s):=aj HI.out rfl
 have lI:w.heap.size<W.heap.size:=bB HI.out
 go_region_held3 (fun W'=>W'.cell? ⟨w.heap.size,0,none⟩=some (.bool hd)/\W'.cell? ⟨w.heap.size,1,none⟩=some (.string s)) (go_keep) (first|(go_at_call 115;refine (AL.out _).mono ?_;rintro e w2 ⟨g,rfl,hg,hblk,hb2⟩;have HB2:=hide (ak ((Below.refl _ W).drew) hb2);have HBK:=hide hblk;have hgl:W.heap.size<=g:=hg;have k0:=(HB2.out.cell (p:=⟨w.heap.size,0,none⟩) lI).trans a0;have k1:=(HB2.out.cell (p:=⟨w.heap.size,1,none⟩) lI).trans a1;have HT2:=hide (dw HB2.out HT.out);have z0:w2.cell? ⟨w.heap.size+1,0,none⟩=some (.bool false):=aj HT2.out rfl;have z1:w2.cell? ⟨w.heap.size+1,1,none⟩=some (.string ⟨#[]⟩):=aj HT2.out rfl;have z2:w2.cell? ⟨w.heap.size+1,2,none⟩=some (.slice none 0 0):=aj HT2.out rfl;have y0:=frozen_of_row w2 (w.heap.size+1) 0 _ _ HT2.out;have y1:=frozen_of_row w2 (w.heap.size+1) 1 _ _ HT2.out;have y2:=frozen_of_row w2 (w.heap.size+1) 2 _ _ HT2.out;clear hblk hb2 hg))
 go_wp2
 have lT:w.heap.size+1<W.heap.size:=bB HT.out
 have hsz:=HB.out.size
 refine bodyPost_ret (v:=.agg #[.bool hd,.string s,.slice (some ⟨g,0,none⟩) s.size s.size]) (results_cell_row Tryz.results89 _ _ (w.heap.size+1) 88 #[.bool hd,.string s,.slice (some ⟨g,0,none⟩) s.size s.size] (0,0) _ rfl (Um HT2.out _ _ _) Tryz.underlying88 rfl Tryz.iCode) rfl ⟨g,rfl,by omega,HBK.out.same ?_,?_⟩
 ·rw[heap_setCell_other _ _ _ _ (by show g≠w.heap.size+1;omega),heap_setCell_other _ _ _ _ (by show g≠w.heap.size+1;omega),heap_setCell_other _ _ _ _ (by show g≠w.heap.size+1;omega)]
 ·exact (((HB.out.trans (HB2.out.mono hsz)).setCell (p:=⟨w.heap.size+1,0,none⟩) (by simp) _).setCell (p:=⟨w.heap.size+1,1,none⟩) (by simp) _).setCell (p:=⟨w.heap.size+1,2,none⟩) (by simp) _
end
section
open Mc
theorem vC {w w':World}{A B:Nat}{x y:Obj}(h:w.heap[A]?=some x/\w.heap[B]?=some y)(hb:Below w.heap.size w w'):w'.heap[A]?=some x/\w'.heap[B]?=some y:=⟨dw hb h.1,dw hb h.2⟩
theorem yL (hd:Bool)(s:ByteArray)(la:Option Addr)(ln lc p h:Nat)(off:Bool)(w:World)(hs:s.size<=10000)(hp:p<=20000)(hh:h<64)(hok:bG s.data.toList) :
  Calls Tryz.prog 103 #[.agg #[.bool hd,.string s,.slice la ln lc],.agg #[.int .i64 (p:Int),.bool (h.testBit 0),.bool (h.testBit 1),.bool (h.testBit 2),.bool (h.testBit 3),.bool (h.testBit 4),.bool (h.testBit 5),.bool off]] w fun e w'=>e=.returned (.int .u8 (aB hd s.data.toList p h off))/\Below w.heap.size w w':=by
 have A1:=hide (fun W=>pO hd s la ln lc p W hs hp hok)
 have A4:=hide (fun W=>iF hd s la ln lc p W hs hp)
 have hnb:=vR hok p
 have A2:=hide (fun W=>vT h (aW s.data.toList p) W (by omega) (by omega))
 have A3:=hide (fun W=>yK h W hh)
 have HF:Hid (aB hd s.data.toList p h off=if atB s.data.toList p=43 then (if hasB h (aW s.data.toList p)=true then 68 else 0) else if atB s.data.toList p=45 then (if hasB h (aW s.data.toList p)=true then 0 else 85) else if atB s.data.toList p=122 then (if hd=true\/off=true\/(h==0)=false then 83 else 0) else if atB s.data.toList p=60\/atB s.data.toList p=62 then (if hd=true then 73 else 0) else if atB s.data.toList p=101 then (if (h==0)=false\/(off=true/\hd=false) then 69 else 0) else 0):=hide rfl
 have hcb:=jG s.data.toList p
 clear hok
 generalize aB hd s.data.toList p h off=F at *
 generalize hasB h (aW s.data.toList p)=hb at *
 generalize aW s.data.toList p=nm at *
 generalize atB s.data.toList p=ch at *
 generalize (h==0)=ez at *
 generalize h.testBit 0=b0 at *
 generalize h.testBit 1=b1 at *
 generalize h.testBit 2=b2 at *
 generalize h.testBit 3=b3 at *
 generalize h.testBit 4=b4 at *
 generalize h.testBit 5=b5 at *
 clear hh
 have hch:(ch=43/\hb=false)\/(ch=43/\hb=true)\/(ch=45/\hb=false)\/(ch=45/\hb=true)\/(ch=122/\ez=false)\/(ch=122/\ez=true)\/ch=60\/ch=62\/(ch=101/\ez=false)\/(ch=101/\ez=true)\/((ch==43)=false/\(ch==45)=false/\(ch==122)=false/\(ch==60)=false/\(ch==62)=false/\(ch==101)=false):=by
  cases hb<;>cases ez<;>simp<;>omega
 rcases hch with ⟨rfl,rfl⟩ | ⟨rfl,rfl⟩ | ⟨rfl,rfl⟩ | ⟨rfl,rfl⟩ | ⟨rfl,rfl⟩ | ⟨rfl,rfl⟩|rfl|rfl | ⟨rfl,rfl⟩ | ⟨rfl,rfl⟩ | ⟨n43,n45,n122,n60,n62,n101⟩
 all_goals (
  go_enter Tryz.func103,Tryz.ntmps103
  go_wp2_with (first|(go_at_call 129;have HC0:Hid (((w.alloc (.cells #[.bool hd,.string s,.slice la ln lc] 88)).alloc (.cells #[.int .i64 (p:Int),.bool b0,.bool b1,.bool b2,.bool b3,.bool b4,.bool b5,.bool off] 91)).heap[w.heap.size]?=some (.cells #[.bool hd,.string s,.slice la ln lc] 88 (0,0))/\((w.alloc (.cells #[.bool hd,.string s,.slice la ln lc] 88)).alloc (.cells #[.int .i64 (p:Int),.bool b0,.bool b1,.bool b2,.bool b3,.bool b4,.bool b5,.bool off] 91)).heap[w.heap.size+1]?=some (.cells #[.int .i64 (p:Int),.bool b0,.bool b1,.bool b2,.bool b3,.bool b4,.bool b5,.bool off] 91 (0,0))):=hide ⟨heap_alloc2_old _ _ _,heap_alloc2_new _ _ _⟩;have HB0:=hide (((Below.refl _ w).alloc (Nat.le_refl _) (.cells #[.bool hd,.string s,.slice la ln lc] 88)).alloc (by simp) (.cells #[.int .i64 (p:Int),.bool b0,.bool b1,.bool b2,.bool b3,.bool b4,.bool b5,.bool off] 91));refine (A1.out _).mono ?_;rintro e w1 ⟨rfl,aK⟩;have HC1:=hide (vC HC0.out aK);have HB1:=hide (ak HB0.out aK);have Vb:w1.cell? ⟨w.heap.size,0,none⟩=some (.bool hd):=aj HC1.out.1 rfl;have Vd:w1.cell? ⟨w.heap.size,1,none⟩=some (.string s):=aj HC1.out.1 rfl;have Ve:w1.cell? ⟨w.heap.size,2,none⟩=some (.slice la ln lc):=aj HC1.out.1 rfl;have Vf:w1.cell? ⟨w.heap.size+1,0,none⟩=some (.int .i64 (p:Int)):=aj HC1.out.2 rfl;have Vg:w1.cell? ⟨w.heap.size+1,1,none⟩=some (.bool b0):=aj HC1.out.2 rfl;have Vh:w1.cell? ⟨w.heap.size+1,2,none⟩=some (.bool b1):=aj HC1.out.2 rfl;have Vj:w1.cell? ⟨w.heap.size+1,3,none⟩=some (.bool b2):=aj HC1.out.2 rfl;have Vk:w1.cell? ⟨w.heap.size+1,4,none⟩=some (.bool b3):=aj HC1.out.2 rfl;have Vl:w1.cell? ⟨w.heap.size+1,5,none⟩=some (.bool b4):=aj HC1.out.2 rfl;have Vm:w1.cell? ⟨w.heap.size+1,6,none⟩=some (.bool b5):=aj HC1.out.2 rfl;have Vn:w1.cell? ⟨w.heap.size+1,7,none⟩=some (.bool off):=aj HC1.out.2 rfl)|(go_at_call 130;refine (A2.out _).mono ?_;rintro e w2 ⟨rfl,hbw2⟩;have HC2:=hide (vC HC1.out hbw2);have HB2:=hide (ak HB1.out hbw2);have Vo:w2.cell? ⟨w.heap.size,0,none⟩=some (.bool hd):=aj HC2.out.1 rfl;have Vp:w2.cell? ⟨w.heap.size,1,none⟩=some (.string s):=aj HC2.out.1 rfl;have Vq:w2.cell? ⟨w.heap.size,2,none⟩=some (.slice la ln lc):=aj HC2.out.1 rfl;have Vr:w2.cell? ⟨w.heap.size+1,0,none⟩=some (.int .i64 (p:Int)):=aj HC2.out.2 rfl;have Vs:w2.cell? ⟨w.heap.size+1,1,none⟩=some (.bool b0):=aj HC2.out.2 rfl;have Vt:w2.cell? ⟨w.heap.size+1,2,none⟩=some (.bool b1):=aj HC2.out.2 rfl;have Vu:w2.cell? ⟨w.heap.size+1,3,none⟩=some (.bool b2):=aj HC2.out.2 rfl;have Vv:w2.cell? ⟨w.heap.size+1,4,none⟩=some (.bool b3):=aj HC2.out.2 rfl;have Vw:w2.cell? ⟨w.heap.size+1,5,none⟩=some (.bool b4):=aj HC2.out.2 rfl;have Vx:w2.cell? ⟨w.heap.size+1,6,none⟩=some (.bool b5):=aj HC2.out.2 rfl;have Vy:w2.cell? ⟨w.heap.size+1,7,none⟩=some (.bool off):=aj HC2.out.2 rfl)|(go_at_call 131;refine (A3.out _).mono ?_;rintro e w3 ⟨rfl,gF⟩;have HC3:=hide (vC HC2.out gF);have HB3:=hide (ak HB2.out gF);have Vz:w3.cell? ⟨w.heap.size,0,none⟩=some (.bool hd):=aj HC3.out.1 rfl;have VA:w3.cell? ⟨w.heap.size,1,none⟩=some (.string s):=aj HC3.out.1 rfl;have VB:w3.cell? ⟨w.heap.size,2,none⟩=some (.slice la ln lc):=aj HC3.out.1 rfl;have VD:w3.cell? ⟨w.heap.size+1,0,none⟩=some (.int .i64 (p:Int)):=aj HC3.out.2 rfl;have VE:w3.cell? ⟨w.heap.size+1,1,none⟩=some (.bool b0):=aj HC3.out.2 rfl;have VF:w3.cell? ⟨w.heap.size+1,2,none⟩=some (.bool b1):=aj HC3.out.2 rfl;have VG:w3.cell? ⟨w.heap.size+1,3,none⟩=some (.bool b2):=aj HC3.out.2 rfl;have VH:w3.cell? ⟨w.heap.size+1,4,none⟩=some (.bool b3):=aj HC3.out.2 rfl;have VI:w3.cell? ⟨w.heap.size+1,5,none⟩=some (.bool b4):=aj HC3.out.2 rfl;have VJ:w3.cell? ⟨w.heap.size+1,6,none⟩=some (.bool b5):=aj HC3.out.2 rfl;have VK:w3.cell? ⟨w.heap.size+1,7,none⟩=some (.bool off):=aj HC3.out.2 rfl)|(go_at_call 105;refine (A4.out _).mono ?_;rintro e w4 ⟨rfl,GJ⟩;have HC4:=hide (vC HC3.out GJ);have HB4:=hide (ak HB3.out GJ);have VL:w4.cell? ⟨w.heap.size,0,none⟩=some (.bool hd):=aj HC4.out.1 rfl;have VN:w4.cell? ⟨w.heap.size,1,none⟩=some (.string s):=aj HC4.out.1 rfl;have VO:w4.cell? ⟨w.heap.size,2,none⟩=some (.slice la ln lc):=aj HC4.out.1 rfl;have VP:w4.cell? ⟨w.heap.size+1,0,none⟩=some (.int .i64 (p:Int)):=aj HC4.out.2 rfl;have VQ:w4.cell? ⟨w.heap.size+1,1,none⟩=some (.bool b0):=aj HC4.out.2 rfl;have VR:w4.cell? ⟨w.heap.size+1,2,none⟩=some (.bool b1):=aj HC4.out.2 rfl;have VS:w4.cell? ⟨w.heap.size+1,3,none⟩=some (.bool b2):=aj HC4.out.2 rfl;have VT:w4.cell? ⟨w.heap.size+1,4,none⟩=some (.bool b3):=aj HC4.out.2 rfl;have VU:w4.cell? ⟨w.heap.size+1,5,none⟩=some (.bool b4):=aj HC4.out.2 rfl;have VW:w4.cell? ⟨w.heap.size+1,6,none⟩=some (.bool b5):=aj HC4.out.2 rfl;have VX:w4.cell? ⟨w.heap.size+1,7,none⟩=some (.bool off):=aj HC4.out.2 rfl))
  all_goals (go_ret;exact ⟨aO (by rw[HF.out];simp_all),HB4.out⟩))
end
def Row (w:World)(g:Nat)(cs:Array Value)(t:TypeId):Prop:=w.heap[g]?=some (.cells cs t (0,0))
theorem Row.raw {w:World}{g:Nat}{cs:Array Value}{t:TypeId}(h:Row w g cs t):w.heap[g]?=some (.cells cs t (0,0)):=h
theorem Row.lt {w:World}{g:Nat}{cs:Array Value}{t:TypeId}(h:Row w g cs t):g<w.heap.size:=bB h
theorem Row.cell {w:World}{g:Nat}{cs:Array Value}{t:TypeId}(h:Row w g cs t)(i:Nat){v:Value}(hi:cs[i]?=some v):w.cell? ⟨g,i,none⟩=some v:=aj h hi
theorem Row.frozen {w:World}{g:Nat}{cs:Array Value}{t:TypeId}(h:Row w g cs t)(i:Nat):w.frozen? ⟨g,i,none⟩=false:=frozen_of_row w g i cs t h
theorem Row.below {w w':World}{g:Nat}{cs:Array Value}{t:TypeId}(h:Row w g cs t)(hb:Below w.heap.size w w'):Row w' g cs t:=dw hb h
theorem Row.same {w w':World}{g:Nat}{cs:Array Value}{t:TypeId}(h:Row w g cs t)(he:w'.heap[g]?=w.heap[g]?):Row w' g cs t:=he.trans h
theorem Row.alloc {w:World}{g:Nat}{cs:Array Value}{t:TypeId}(h:Row w g cs t)(o:Obj):Row (w.alloc o) g cs t:=h.same (Below.heap_alloc w o g h.lt)
theorem Row.new (w:World)(cs:Array Value)(t:TypeId):Row (w.alloc (.cells cs t)) w.heap.size cs t:=heap_alloc_last _ _
theorem Row.set {w:World}{g:Nat}{cs:Array Value}{t:TypeId}(h:Row w g cs t)(i:Nat)(v:Value):Row (w.setCell ⟨g,i,none⟩ v) g (cs.setIfInBounds i v) t:=heap_setCell_same _ _ _ _ _ _ h
theorem Row.aA {w:World}{g k:Nat}{cs:Array Value}{t:TypeId}(h:Row w k cs t)(hne:k≠g)(i:Nat)(v:Value):Row (w.setCell ⟨g,i,none⟩ v) k cs t:=h.same (heap_setCell_other _ _ _ _ hne)
def wO:Array Value->Nat->List Value->Array Value
 | cs,_,[]=>cs
 | cs,o,v::r=>wO (cs.setIfInBounds o v) (o+1) r
theorem Row.sets {g:Nat}{t:TypeId}:∀(vs:List Value) (o:Nat) (w:World) (cs:Array Value),Row w g cs t->Row (w.setCells g o vs) g (wO cs o vs) t
 | [],_,_,_,h=>h
 | v::r,o,w,cs,h=>Row.sets r (o+1) _ _ (h.set o v)
theorem Row.kK {w:World}{g k:Nat}{cs:Array Value}{t:TypeId}(h:Row w k cs t)(hne:k≠g)(o:Nat)(vs:List Value):Row (w.setCells g o vs) k cs t:=h.same (heap_setCells_other g vs o w k hne)
theorem Row.setRow {w:World}{g:Nat}{cs:Array Value}{t:TypeId}(h:Row w g cs t)(cs':Array Value):Row (w.setRow g cs') g cs' t:=setRow_heap _ _ _ _ _ _ h
theorem Row.range {w:World}{g:Nat}{cs:Array Value}{t:TypeId}(h:Row w g cs t)(o:Nat)(vs:List Value)(hv:∀j v,vs[j]?=some v->cs[o+j]?=some v):w.rangeAt g o vs:=fun j v hj=>h.cell (o+j) (hv j v hj)
theorem Row.there {w:World}{g:Nat}{cs:Array Value}{t:TypeId}(h:Row w g cs t)(o m:Nat)(hn:o+m<=cs.size):w.there g o m:=fun j hj=>⟨by rw[h.cell (o+j) (Array.getElem?_eq_getElem (show o+j<cs.size by omega))];rfl,h.frozen _⟩
theorem Row.blk {w:World}{g:Nat}{cs:Array Value}{t:TypeId}(h:Row w g cs t){n:Nat}{f:Nat->Value}(hf:∀i,i<n->cs[i]?=some (f i)):Blk w g n f:=⟨cs,t,h,hf⟩
theorem Row.two (w:World)(a b:Array Value)(s t:TypeId):Row ((w.alloc (.cells a s)).alloc (.cells b t)) w.heap.size a s/\Row ((w.alloc (.cells a s)).alloc (.cells b t)) (w.heap.size+1) b t:=by
 refine ⟨(Row.new w a s).alloc _,?_⟩
 have:=Row.new (w.alloc (.cells a s)) b t
 simpa using this
theorem Row.three (w:World)(a b c:Array Value)(s t u:TypeId):Row (((w.alloc (.cells a s)).alloc (.cells b t)).alloc (.cells c u)) w.heap.size a s/\Row (((w.alloc (.cells a s)).alloc (.cells b t)).alloc (.cells c u)) (w.heap.size+1) b t/\Row (((w.alloc (.cells a s)).alloc (.cells b t)).alloc (.cells c u)) (w.heap.size+2) c u:=by
 refine ⟨(Row.two w a b s t).1.alloc _,(Row.two w a b s t).2.alloc _,?_⟩
 have:=Row.new ((w.alloc (.cells a s)).alloc (.cells b t)) c u
 simpa using this
theorem og (w:World)(a b:Obj):Below w.heap.size w ((w.alloc a).alloc b):=((Below.refl _ w).alloc (Nat.le_refl _) a).alloc (by simp) b
theorem iR (w:World)(a b c:Obj):Below w.heap.size w (((w.alloc a).alloc b).alloc c):=(og w a b).alloc (by simp;omega) c
theorem aD (w:World)(a:Obj):Below w.heap.size w (w.alloc a):=(Below.refl _ w).alloc (Nat.le_refl _) a
theorem Row.s80 {w:World}{g:Nat}{t:TypeId}{a0 a1 a2 a3 a4 a5 a6 a7:Value}(h:Row w g #[a0,a1,a2,a3,a4,a5,a6,a7] t)(v:Value):Row (w.setCell ⟨g,0,none⟩ v) g #[v,a1,a2,a3,a4,a5,a6,a7] t:=by have:=h.set 0 v;simpa using this
theorem Row.s87 {w:World}{g:Nat}{t:TypeId}{a0 a1 a2 a3 a4 a5 a6 a7:Value}(h:Row w g #[a0,a1,a2,a3,a4,a5,a6,a7] t)(v:Value):Row (w.setCell ⟨g,7,none⟩ v) g #[a0,a1,a2,a3,a4,a5,a6,v] t:=by have:=h.set 7 v;simpa using this
theorem Row.s86 {w:World}{g:Nat}{t:TypeId}{a0 a1 a2 a3 a4 a5 a6 a7:Value}(h:Row w g #[a0,a1,a2,a3,a4,a5,a6,a7] t)(v1 v2 v3 v4 v5 v6:Value):Row (w.setCells g 1 [v1,v2,v3,v4,v5,v6]) g #[a0,v1,v2,v3,v4,v5,v6,a7] t:=by have:=Row.sets [v1,v2,v3,v4,v5,v6] 1 w _ h;simpa [wO] using this
end Go.Proofs.YtecmfdkhcffpmaaGreat
