/- ProgF. -/
import Derived.Test.YtecmfdkhcffpmaaGreatB24
import Derived.Test.YtecmfdkhcffpmaaGreatB25
import Derived.Test.YtecmfdkhcffpmaaGreatB23
namespace Go.Proofs.YtecmfdkhcffpmaaGreat
open Go.RowKit
set_option linter.unusedVariables false
set_option linter.unusedSimpArgs false
set_option linter.unusedSectionVars false
set_option maxHeartbeats 8000000
set_option maxRecDepth 100000
section
open Mc
def stA (p h:Nat)(off:Bool):Array Value:=#[.int .i64 (p:Int),.bool (h.testBit 0),.bool (h.testBit 1),.bool (h.testBit 2),.bool (h.testBit 3),.bool (h.testBit 4),.bool (h.testBit 5),.bool off]
theorem ny (p h:Nat)(off:Bool):(stA p h off).all (·.oneCell')=true:=by simp[stA,Value.oneCell']
theorem Tryz.uHeldR:∃d,Tryz.prog.underlying 89=some d/\d.isRow=true:=⟨_,Tryz.underlying89,rfl⟩
theorem Row.zH {w:World}{g:Nat}{t:TypeId}{a0 a1 a2 a3 a4 a5 a6 a7:Value}(h:Row w g #[a0,a1,a2,a3,a4,a5,a6,a7] t):w.rangeAt g 1 [a1,a2,a3,a4,a5,a6]:=by
 refine h.range 1 _ fun j v hj=>?_
 rcases j with _|_|_|_|_|_|j<;>first|(simp at hj;simp[hj])|(simp at hj)
theorem CF {w:World}{g:Nat}{cs:Array Value}{t:TypeId}(h:Row w g cs t)(o:Nat)(vs:List Value)(i:Nat):(w.setCells g o vs).frozen? ⟨g,i,none⟩=false:=(Row.sets vs o w cs h).frozen i
theorem Row.GK {w:World}{g:Nat}{t:TypeId}{p0:Int}{a1 a2 a3 a4 a5 a6 a7:Value}(h:Row w g #[.int .i64 p0,a1,a2,a3,a4,a5,a6,a7] t)(vs:List Value)(hv:vs.length=6):(w.setCells g 1 vs).cell? ⟨g,0,none⟩=some (.int .i64 p0):=by
 match vs,hv with
 | [v1,v2,v3,v4,v5,v6],_=>exact (h.s86 v1 v2 v3 v4 v5 v6).cell 0 rfl
theorem Tryz.iState:(Tryz.prog.info? 91).map (·.size)=some 8:=by kernel_rfl
theorem EN (zc:Int)(hzc:zc=114\/zc=119)(hd:Bool)(s:ByteArray)(lg p:Nat)(b0 b1 b2 b3 b4 b5 off comma:Bool)(w:World)(hs:s.size<=10000)(hp:p<=20000)(hch:atB s.data.toList p=zc) :
  Calls Tryz.prog 145 #[.agg #[.bool hd,.string s,.slice (some ⟨lg,0,none⟩) s.size s.size],.agg #[.int .i64 ((p:Int)),.bool b0,.bool b1,.bool b2,.bool b3,.bool b4,.bool b5,.bool off],.bool comma] w fun e w'=>e=.returned (.agg #[.int .i64 ((p:Int)+2),.bool b0,.bool b1,.bool b2,.bool b3,.bool b4,.bool b5,.bool off])/\Below w.heap.size w w':=by
 rcases hzc with rfl|rfl
 all_goals (
  have A4:=hide (fun W=>iF hd s (some ⟨lg,0,none⟩) s.size s.size p W hs hp)
  rw[hch] at A4
  clear hch
  go_enter Tryz.func145,Tryz.ntmps145
  go_wp2_with fail
  have HC0:=hide (Row.three w #[.bool hd,.string s,.slice (some ⟨lg,0,none⟩) s.size s.size] #[.int .i64 ((p:Int)),.bool b0,.bool b1,.bool b2,.bool b3,.bool b4,.bool b5,.bool off] #[.int .i64 0,.bool false,.bool false,.bool false,.bool false,.bool false,.bool false,.bool false] 88 91 91)
  have HB0:=hide (iR w (.cells #[.bool hd,.string s,.slice (some ⟨lg,0,none⟩) s.size s.size] 88) (.cells #[.int .i64 ((p:Int)),.bool b0,.bool b1,.bool b2,.bool b3,.bool b4,.bool b5,.bool off] 91) (.cells #[.int .i64 0,.bool false,.bool false,.bool false,.bool false,.bool false,.bool false,.bool false] 91))
  generalize ((w.alloc (.cells #[.bool hd,.string s,.slice (some ⟨lg,0,none⟩) s.size s.size] 88)).alloc (.cells #[.int .i64 ((p:Int)),.bool b0,.bool b1,.bool b2,.bool b3,.bool b4,.bool b5,.bool off] 91)).alloc (.cells #[.int .i64 0,.bool false,.bool false,.bool false,.bool false,.bool false,.bool false,.bool false] 91)=W at *
  go_at_call 105
  refine (A4.out _).mono ?_
  rintro e w1 ⟨rfl,aK⟩
  have HC1:=hide (And.intro (HC0.out.1.below aK) (And.intro (HC0.out.2.1.below aK) (HC0.out.2.2.below aK)))
  have HB1:=hide (ak HB0.out aK)
  clear HC0 HB0 A4 aK
  have v0:=HC1.out.2.1.frozen 0
  have v1:=HC1.out.2.1.cell 0 (v:=.int .i64 (p:Int)) rfl
  go_wp2_with (first|(refine wpList_load_row rfl 91 _ rfl _ rfl 91 #[.int .i64 ((p:Int)+2),.bool b0,.bool b1,.bool b2,.bool b3,.bool b4,.bool b5,.bool off] (0,0) _ ?_ Tryz.underlying91 rfl Tryz.iState ?_;(exact (HC1.out.2.1.s80 (.int .i64 ((p:Int)+2))).raw))|(refine wpList_store_row rfl 91 _ _ rfl (w.heap.size+2) #[.int .i64 ((p:Int)+2),.bool b0,.bool b1,.bool b2,.bool b3,.bool b4,.bool b5,.bool off] rfl rfl 91 #[.int .i64 0,.bool false,.bool false,.bool false,.bool false,.bool false,.bool false,.bool false] ?_ Tryz.iState rfl (by simp[Value.oneCell']) ?_;(exact (HC1.out.2.2.aA (g:=w.heap.size+1) (by omega) 0 (.int .i64 ((p:Int)+2))).raw)))
  exact bodyPost_ret (v:=.agg #[.int .i64 ((p:Int)+2),.bool b0,.bool b1,.bool b2,.bool b3,.bool b4,.bool b5,.bool off]) (results_cell_row Tryz.results145 _ _ (w.heap.size+2) 91 #[.int .i64 ((p:Int)+2),.bool b0,.bool b1,.bool b2,.bool b3,.bool b4,.bool b5,.bool off] (0,0) _ rfl ((HC1.out.2.2.aA (g:=w.heap.size+1) (by omega) 0 (.int .i64 ((p:Int)+2))).setRow _).raw Tryz.underlying91 rfl Tryz.iState) rfl ⟨rfl,below_setRow (HB1.out.setCell (p:=⟨w.heap.size+1,0,none⟩) (by simp) _) (by omega) _⟩)
theorem RJ (hd:Bool)(s:ByteArray)(lg p:Nat)(b0 b1 b2 b3 b4 b5 off comma:Bool)(w:World)(hs:s.size<=10000)(hp:p<=20000)(hch:atB s.data.toList p=60) :
  Calls Tryz.prog 145 #[.agg #[.bool hd,.string s,.slice (some ⟨lg,0,none⟩) s.size s.size],.agg #[.int .i64 ((p:Int)),.bool b0,.bool b1,.bool b2,.bool b3,.bool b4,.bool b5,.bool off],.bool comma] w fun e w'=>e=.returned (.agg #[.int .i64 ((p:Int)+1),.bool b0,.bool b1,.bool b2,.bool b3,.bool b4,.bool b5,.bool true])/\Below w.heap.size w w':=by
 have A4:=hide (fun W=>iF hd s (some ⟨lg,0,none⟩) s.size s.size p W hs hp)
 rw[hch] at A4
 clear hch
 go_enter Tryz.func145,Tryz.ntmps145
 go_wp2_with fail
 have HC0:=hide (Row.three w #[.bool hd,.string s,.slice (some ⟨lg,0,none⟩) s.size s.size] #[.int .i64 ((p:Int)),.bool b0,.bool b1,.bool b2,.bool b3,.bool b4,.bool b5,.bool off] #[.int .i64 0,.bool false,.bool false,.bool false,.bool false,.bool false,.bool false,.bool false] 88 91 91)
 have HB0:=hide (iR w (.cells #[.bool hd,.string s,.slice (some ⟨lg,0,none⟩) s.size s.size] 88) (.cells #[.int .i64 ((p:Int)),.bool b0,.bool b1,.bool b2,.bool b3,.bool b4,.bool b5,.bool off] 91) (.cells #[.int .i64 0,.bool false,.bool false,.bool false,.bool false,.bool false,.bool false,.bool false] 91))
 generalize ((w.alloc (.cells #[.bool hd,.string s,.slice (some ⟨lg,0,none⟩) s.size s.size] 88)).alloc (.cells #[.int .i64 ((p:Int)),.bool b0,.bool b1,.bool b2,.bool b3,.bool b4,.bool b5,.bool off] 91)).alloc (.cells #[.int .i64 0,.bool false,.bool false,.bool false,.bool false,.bool false,.bool false,.bool false] 91)=W at *
 go_at_call 105
 refine (A4.out _).mono ?_
 rintro e w1 ⟨rfl,aK⟩
 have HC1:=hide (And.intro (HC0.out.1.below aK) (And.intro (HC0.out.2.1.below aK) (HC0.out.2.2.below aK)))
 have HB1:=hide (ak HB0.out aK)
 clear HC0 HB0 A4 aK
 have v0:=HC1.out.2.1.frozen 0
 have v1:=HC1.out.2.1.cell 0 (v:=.int .i64 (p:Int)) rfl
 have v2:=HC1.out.2.1.frozen 7
 have v3:=HC1.out.2.1.cell 7 (v:=.bool off) rfl
 go_wp2_with (first|(refine wpList_load_row rfl 91 _ rfl _ rfl 91 #[.int .i64 ((p:Int)+1),.bool b0,.bool b1,.bool b2,.bool b3,.bool b4,.bool b5,.bool true] (0,0) _ ?_ Tryz.underlying91 rfl Tryz.iState ?_;(exact ((HC1.out.2.1.s87 (.bool true)).s80 (.int .i64 ((p:Int)+1))).raw))|(refine wpList_store_row rfl 91 _ _ rfl (w.heap.size+2) #[.int .i64 ((p:Int)+1),.bool b0,.bool b1,.bool b2,.bool b3,.bool b4,.bool b5,.bool true] rfl rfl 91 #[.int .i64 0,.bool false,.bool false,.bool false,.bool false,.bool false,.bool false,.bool false] ?_ Tryz.iState rfl (by simp[Value.oneCell']) ?_;(exact ((HC1.out.2.2.aA (g:=w.heap.size+1) (by omega) 7 (.bool true)).aA (g:=w.heap.size+1) (by omega) 0 (.int .i64 ((p:Int)+1))).raw)))
 exact bodyPost_ret (v:=.agg #[.int .i64 ((p:Int)+1),.bool b0,.bool b1,.bool b2,.bool b3,.bool b4,.bool b5,.bool true]) (results_cell_row Tryz.results145 _ _ (w.heap.size+2) 91 #[.int .i64 ((p:Int)+1),.bool b0,.bool b1,.bool b2,.bool b3,.bool b4,.bool b5,.bool true] (0,0) _ rfl (((HC1.out.2.2.aA (g:=w.heap.size+1) (by omega) 7 (.bool true)).aA (g:=w.heap.size+1) (by omega) 0 (.int .i64 ((p:Int)+1))).setRow _).raw Tryz.underlying91 rfl Tryz.iState) rfl ⟨rfl,below_setRow ((HB1.out.setCell (p:=⟨w.heap.size+1,7,none⟩) (by simp) _).setCell (p:=⟨w.heap.size+1,0,none⟩) (by simp) _) (by omega) _⟩
theorem RN (hd:Bool)(s:ByteArray)(lg p:Nat)(b0 b1 b2 b3 b4 b5 off comma:Bool)(w:World)(hs:s.size<=10000)(hp:p<=20000)(hch:atB s.data.toList p=62) :
  Calls Tryz.prog 145 #[.agg #[.bool hd,.string s,.slice (some ⟨lg,0,none⟩) s.size s.size],.agg #[.int .i64 ((p:Int)),.bool b0,.bool b1,.bool b2,.bool b3,.bool b4,.bool b5,.bool off],.bool comma] w fun e w'=>e=.returned (.agg #[.int .i64 ((p:Int)+1),.bool b0,.bool b1,.bool b2,.bool b3,.bool b4,.bool b5,.bool false])/\Below w.heap.size w w':=by
 have A4:=hide (fun W=>iF hd s (some ⟨lg,0,none⟩) s.size s.size p W hs hp)
 rw[hch] at A4
 clear hch
 go_enter Tryz.func145,Tryz.ntmps145
 go_wp2_with fail
 have HC0:=hide (Row.three w #[.bool hd,.string s,.slice (some ⟨lg,0,none⟩) s.size s.size] #[.int .i64 ((p:Int)),.bool b0,.bool b1,.bool b2,.bool b3,.bool b4,.bool b5,.bool off] #[.int .i64 0,.bool false,.bool false,.bool false,.bool false,.bool false,.bool false,.bool false] 88 91 91)
 have HB0:=hide (iR w (.cells #[.bool hd,.string s,.slice (some ⟨lg,0,none⟩) s.size s.size] 88) (.cells #[.int .i64 ((p:Int)),.bool b0,.bool b1,.bool b2,.bool b3,.bool b4,.bool b5,.bool off] 91) (.cells #[.int .i64 0,.bool false,.bool false,.bool false,.bool false,.bool false,.bool false,.bool false] 91))
 generalize ((w.alloc (.cells #[.bool hd,.string s,.slice (some ⟨lg,0,none⟩) s.size s.size] 88)).alloc (.cells #[.int .i64 ((p:Int)),.bool b0,.bool b1,.bool b2,.bool b3,.bool b4,.bool b5,.bool off] 91)).alloc (.cells #[.int .i64 0,.bool false,.bool false,.bool false,.bool false,.bool false,.bool false,.bool false] 91)=W at *
 go_at_call 105
 refine (A4.out _).mono ?_
 rintro e w1 ⟨rfl,aK⟩
 have HC1:=hide (And.intro (HC0.out.1.below aK) (And.intro (HC0.out.2.1.below aK) (HC0.out.2.2.below aK)))
 have HB1:=hide (ak HB0.out aK)
 clear HC0 HB0 A4 aK
 have v0:=HC1.out.2.1.frozen 0
 have v1:=HC1.out.2.1.cell 0 (v:=.int .i64 (p:Int)) rfl
 have v2:=HC1.out.2.1.frozen 7
 have v3:=HC1.out.2.1.cell 7 (v:=.bool off) rfl
 go_wp2_with (first|(refine wpList_load_row rfl 91 _ rfl _ rfl 91 #[.int .i64 ((p:Int)+1),.bool b0,.bool b1,.bool b2,.bool b3,.bool b4,.bool b5,.bool false] (0,0) _ ?_ Tryz.underlying91 rfl Tryz.iState ?_;(exact ((HC1.out.2.1.s87 (.bool false)).s80 (.int .i64 ((p:Int)+1))).raw))|(refine wpList_store_row rfl 91 _ _ rfl (w.heap.size+2) #[.int .i64 ((p:Int)+1),.bool b0,.bool b1,.bool b2,.bool b3,.bool b4,.bool b5,.bool false] rfl rfl 91 #[.int .i64 0,.bool false,.bool false,.bool false,.bool false,.bool false,.bool false,.bool false] ?_ Tryz.iState rfl (by simp[Value.oneCell']) ?_;(exact ((HC1.out.2.2.aA (g:=w.heap.size+1) (by omega) 7 (.bool false)).aA (g:=w.heap.size+1) (by omega) 0 (.int .i64 ((p:Int)+1))).raw)))
 exact bodyPost_ret (v:=.agg #[.int .i64 ((p:Int)+1),.bool b0,.bool b1,.bool b2,.bool b3,.bool b4,.bool b5,.bool false]) (results_cell_row Tryz.results145 _ _ (w.heap.size+2) 91 #[.int .i64 ((p:Int)+1),.bool b0,.bool b1,.bool b2,.bool b3,.bool b4,.bool b5,.bool false] (0,0) _ rfl (((HC1.out.2.2.aA (g:=w.heap.size+1) (by omega) 7 (.bool false)).aA (g:=w.heap.size+1) (by omega) 0 (.int .i64 ((p:Int)+1))).setRow _).raw Tryz.underlying91 rfl Tryz.iState) rfl ⟨rfl,below_setRow ((HB1.out.setCell (p:=⟨w.heap.size+1,7,none⟩) (by simp) _).setCell (p:=⟨w.heap.size+1,0,none⟩) (by simp) _) (by omega) _⟩
theorem EO (zc:Int)(hzc:zc=122\/zc=41)(hd:Bool)(s:ByteArray)(lg p:Nat)(b0 b1 b2 b3 b4 b5 off comma:Bool)(w:World)(hs:s.size<=10000)(hp:p<=20000)(hch:atB s.data.toList p=zc) :
  Calls Tryz.prog 145 #[.agg #[.bool hd,.string s,.slice (some ⟨lg,0,none⟩) s.size s.size],.agg #[.int .i64 ((p:Int)),.bool b0,.bool b1,.bool b2,.bool b3,.bool b4,.bool b5,.bool off],.bool comma] w fun e w'=>e=.returned (.agg #[.int .i64 ((p:Int)+1),.bool b0,.bool b1,.bool b2,.bool b3,.bool b4,.bool b5,.bool off])/\Below w.heap.size w w':=by
 rcases hzc with rfl|rfl
 all_goals (
  have A4:=hide (fun W=>iF hd s (some ⟨lg,0,none⟩) s.size s.size p W hs hp)
  rw[hch] at A4
  clear hch
  go_enter Tryz.func145,Tryz.ntmps145
  go_wp2_with fail
  have HC0:=hide (Row.three w #[.bool hd,.string s,.slice (some ⟨lg,0,none⟩) s.size s.size] #[.int .i64 ((p:Int)),.bool b0,.bool b1,.bool b2,.bool b3,.bool b4,.bool b5,.bool off] #[.int .i64 0,.bool false,.bool false,.bool false,.bool false,.bool false,.bool false,.bool false] 88 91 91)
  have HB0:=hide (iR w (.cells #[.bool hd,.string s,.slice (some ⟨lg,0,none⟩) s.size s.size] 88) (.cells #[.int .i64 ((p:Int)),.bool b0,.bool b1,.bool b2,.bool b3,.bool b4,.bool b5,.bool off] 91) (.cells #[.int .i64 0,.bool false,.bool false,.bool false,.bool false,.bool false,.bool false,.bool false] 91))
  generalize ((w.alloc (.cells #[.bool hd,.string s,.slice (some ⟨lg,0,none⟩) s.size s.size] 88)).alloc (.cells #[.int .i64 ((p:Int)),.bool b0,.bool b1,.bool b2,.bool b3,.bool b4,.bool b5,.bool off] 91)).alloc (.cells #[.int .i64 0,.bool false,.bool false,.bool false,.bool false,.bool false,.bool false,.bool false] 91)=W at *
  go_at_call 105
  refine (A4.out _).mono ?_
  rintro e w1 ⟨rfl,aK⟩
  have HC1:=hide (And.intro (HC0.out.1.below aK) (And.intro (HC0.out.2.1.below aK) (HC0.out.2.2.below aK)))
  have HB1:=hide (ak HB0.out aK)
  clear HC0 HB0 A4 aK
  have v0:=HC1.out.2.1.frozen 0
  have v1:=HC1.out.2.1.cell 0 (v:=.int .i64 (p:Int)) rfl
  go_wp2_with (first|(refine wpList_load_row rfl 91 _ rfl _ rfl 91 #[.int .i64 ((p:Int)+1),.bool b0,.bool b1,.bool b2,.bool b3,.bool b4,.bool b5,.bool off] (0,0) _ ?_ Tryz.underlying91 rfl Tryz.iState ?_;(exact (HC1.out.2.1.s80 (.int .i64 ((p:Int)+1))).raw))|(refine wpList_store_row rfl 91 _ _ rfl (w.heap.size+2) #[.int .i64 ((p:Int)+1),.bool b0,.bool b1,.bool b2,.bool b3,.bool b4,.bool b5,.bool off] rfl rfl 91 #[.int .i64 0,.bool false,.bool false,.bool false,.bool false,.bool false,.bool false,.bool false] ?_ Tryz.iState rfl (by simp[Value.oneCell']) ?_;(exact (HC1.out.2.2.aA (g:=w.heap.size+1) (by omega) 0 (.int .i64 ((p:Int)+1))).raw)))
  exact bodyPost_ret (v:=.agg #[.int .i64 ((p:Int)+1),.bool b0,.bool b1,.bool b2,.bool b3,.bool b4,.bool b5,.bool off]) (results_cell_row Tryz.results145 _ _ (w.heap.size+2) 91 #[.int .i64 ((p:Int)+1),.bool b0,.bool b1,.bool b2,.bool b3,.bool b4,.bool b5,.bool off] (0,0) _ rfl ((HC1.out.2.2.aA (g:=w.heap.size+1) (by omega) 0 (.int .i64 ((p:Int)+1))).setRow _).raw Tryz.underlying91 rfl Tryz.iState) rfl ⟨rfl,below_setRow (HB1.out.setCell (p:=⟨w.heap.size+1,0,none⟩) (by simp) _) (by omega) _⟩)
theorem Fu (zc:Int)(hzc:zc=40\/zc=91)(hd:Bool)(s:ByteArray)(lg p:Nat)(b0 b1 b2 b3 b4 b5 off:Bool)(w:World)(hs:s.size<=10000)(hp:p<=20000)(hch:atB s.data.toList p=zc) :
  Calls Tryz.prog 145 #[.agg #[.bool hd,.string s,.slice (some ⟨lg,0,none⟩) s.size s.size],.agg #[.int .i64 ((p:Int)),.bool b0,.bool b1,.bool b2,.bool b3,.bool b4,.bool b5,.bool off],.bool false] w fun e w'=>e=.returned (.agg #[.int .i64 ((p:Int)+1),.bool b0,.bool b1,.bool b2,.bool b3,.bool b4,.bool b5,.bool off])/\Below w.heap.size w w':=by
 rcases hzc with rfl|rfl
 all_goals (
  have A4:=hide (fun W=>iF hd s (some ⟨lg,0,none⟩) s.size s.size p W hs hp)
  rw[hch] at A4
  clear hch
  go_enter Tryz.func145,Tryz.ntmps145
  go_wp2_with fail
  have HC0:=hide (Row.three w #[.bool hd,.string s,.slice (some ⟨lg,0,none⟩) s.size s.size] #[.int .i64 ((p:Int)),.bool b0,.bool b1,.bool b2,.bool b3,.bool b4,.bool b5,.bool off] #[.int .i64 0,.bool false,.bool false,.bool false,.bool false,.bool false,.bool false,.bool false] 88 91 91)
  have HB0:=hide (iR w (.cells #[.bool hd,.string s,.slice (some ⟨lg,0,none⟩) s.size s.size] 88) (.cells #[.int .i64 ((p:Int)),.bool b0,.bool b1,.bool b2,.bool b3,.bool b4,.bool b5,.bool off] 91) (.cells #[.int .i64 0,.bool false,.bool false,.bool false,.bool false,.bool false,.bool false,.bool false] 91))
  generalize ((w.alloc (.cells #[.bool hd,.string s,.slice (some ⟨lg,0,none⟩) s.size s.size] 88)).alloc (.cells #[.int .i64 ((p:Int)),.bool b0,.bool b1,.bool b2,.bool b3,.bool b4,.bool b5,.bool off] 91)).alloc (.cells #[.int .i64 0,.bool false,.bool false,.bool false,.bool false,.bool false,.bool false,.bool false] 91)=W at *
  go_at_call 105
  refine (A4.out _).mono ?_
  rintro e w1 ⟨rfl,aK⟩
  have HC1:=hide (And.intro (HC0.out.1.below aK) (And.intro (HC0.out.2.1.below aK) (HC0.out.2.2.below aK)))
  have HB1:=hide (ak HB0.out aK)
  clear HC0 HB0 A4 aK
  have v0:=HC1.out.2.1.frozen 0
  have v1:=HC1.out.2.1.cell 0 (v:=.int .i64 (p:Int)) rfl
  go_wp2_with (first|(refine wpList_load_row rfl 91 _ rfl _ rfl 91 #[.int .i64 ((p:Int)+1),.bool b0,.bool b1,.bool b2,.bool b3,.bool b4,.bool b5,.bool off] (0,0) _ ?_ Tryz.underlying91 rfl Tryz.iState ?_;(exact (HC1.out.2.1.s80 (.int .i64 ((p:Int)+1))).raw))|(refine wpList_store_row rfl 91 _ _ rfl (w.heap.size+2) #[.int .i64 ((p:Int)+1),.bool b0,.bool b1,.bool b2,.bool b3,.bool b4,.bool b5,.bool off] rfl rfl 91 #[.int .i64 0,.bool false,.bool false,.bool false,.bool false,.bool false,.bool false,.bool false] ?_ Tryz.iState rfl (by simp[Value.oneCell']) ?_;(exact (HC1.out.2.2.aA (g:=w.heap.size+1) (by omega) 0 (.int .i64 ((p:Int)+1))).raw)))
  exact bodyPost_ret (v:=.agg #[.int .i64 ((p:Int)+1),.bool b0,.bool b1,.bool b2,.bool b3,.bool b4,.bool b5,.bool off]) (results_cell_row Tryz.results145 _ _ (w.heap.size+2) 91 #[.int .i64 ((p:Int)+1),.bool b0,.bool b1,.bool b2,.bool b3,.bool b4,.bool b5,.bool off] (0,0) _ rfl ((HC1.out.2.2.aA (g:=w.heap.size+1) (by omega) 0 (.int .i64 ((p:Int)+1))).setRow _).raw Tryz.underlying91 rfl Tryz.iState) rfl ⟨rfl,below_setRow (HB1.out.setCell (p:=⟨w.heap.size+1,0,none⟩) (by simp) _) (by omega) _⟩)
theorem EP (zc:Int)(hzc:zc=40\/zc=91)(hd:Bool)(s:ByteArray)(lg p:Nat)(b0 b1 b2 b3 b4 b5 off:Bool)(w:World)(hs:s.size<=10000)(hp:p<=20000)(hch:atB s.data.toList p=zc)(L:Nat)(hlt:lg<w.heap.size)(hps:p<s.size)(hL:w.cell? ⟨lg,p,none⟩=some (.int .i64 ((L:Nat):Int))) :
  Calls Tryz.prog 145 #[.agg #[.bool hd,.string s,.slice (some ⟨lg,0,none⟩) s.size s.size],.agg #[.int .i64 ((p:Int)),.bool b0,.bool b1,.bool b2,.bool b3,.bool b4,.bool b5,.bool off],.bool true] w fun e w'=>e=.returned (.agg #[.int .i64 ((L:Nat)),.bool b0,.bool b1,.bool b2,.bool b3,.bool b4,.bool b5,.bool off])/\Below w.heap.size w w':=by
 rcases hzc with rfl|rfl
 all_goals (
  have A4:=hide (fun W=>iF hd s (some ⟨lg,0,none⟩) s.size s.size p W hs hp)
  rw[hch] at A4
  clear hch
  go_enter Tryz.func145,Tryz.ntmps145
  go_wp2_with fail
  have HC0:=hide (Row.three w #[.bool hd,.string s,.slice (some ⟨lg,0,none⟩) s.size s.size] #[.int .i64 ((p:Int)),.bool b0,.bool b1,.bool b2,.bool b3,.bool b4,.bool b5,.bool off] #[.int .i64 0,.bool false,.bool false,.bool false,.bool false,.bool false,.bool false,.bool false] 88 91 91)
  have HB0:=hide (iR w (.cells #[.bool hd,.string s,.slice (some ⟨lg,0,none⟩) s.size s.size] 88) (.cells #[.int .i64 ((p:Int)),.bool b0,.bool b1,.bool b2,.bool b3,.bool b4,.bool b5,.bool off] 91) (.cells #[.int .i64 0,.bool false,.bool false,.bool false,.bool false,.bool false,.bool false,.bool false] 91))
  generalize ((w.alloc (.cells #[.bool hd,.string s,.slice (some ⟨lg,0,none⟩) s.size s.size] 88)).alloc (.cells #[.int .i64 ((p:Int)),.bool b0,.bool b1,.bool b2,.bool b3,.bool b4,.bool b5,.bool off] 91)).alloc (.cells #[.int .i64 0,.bool false,.bool false,.bool false,.bool false,.bool false,.bool false,.bool false] 91)=W at *
  go_at_call 105
  refine (A4.out _).mono ?_
  rintro e w1 ⟨rfl,aK⟩
  have HC1:=hide (And.intro (HC0.out.1.below aK) (And.intro (HC0.out.2.1.below aK) (HC0.out.2.2.below aK)))
  have HB1:=hide (ak HB0.out aK)
  clear HC0 HB0 A4 aK
  have v0:=HC1.out.2.1.frozen 0
  have v1:=HC1.out.2.1.cell 0 (v:=.int .i64 (p:Int)) rfl
  have x2:=HC1.out.1.cell 2 (v:=.slice (some ⟨lg,0,none⟩) s.size s.size) rfl
  have x3:w1.cell? ⟨lg,p,none⟩=some (.int .i64 ((L:Nat):Int)):=(HB1.out.cell (p:=⟨lg,p,none⟩) hlt).trans hL
  go_wp2_with (first|(refine wpList_load_row rfl 91 _ rfl _ rfl 91 #[.int .i64 ((L:Nat)),.bool b0,.bool b1,.bool b2,.bool b3,.bool b4,.bool b5,.bool off] (0,0) _ ?_ Tryz.underlying91 rfl Tryz.iState ?_;(exact ((HC1.out.2.1.s80 (.int .i64 ((p:Int)+1))).s80 (.int .i64 ((L:Nat):Int))).raw))|(refine wpList_store_row rfl 91 _ _ rfl (w.heap.size+2) #[.int .i64 ((L:Nat)),.bool b0,.bool b1,.bool b2,.bool b3,.bool b4,.bool b5,.bool off] rfl rfl 91 #[.int .i64 0,.bool false,.bool false,.bool false,.bool false,.bool false,.bool false,.bool false] ?_ Tryz.iState rfl (by simp[Value.oneCell']) ?_;(exact ((HC1.out.2.2.aA (g:=w.heap.size+1) (by omega) 0 (.int .i64 ((p:Int)+1))).aA (g:=w.heap.size+1) (by omega) 0 (.int .i64 ((L:Nat):Int))).raw)))
  exact bodyPost_ret (v:=.agg #[.int .i64 ((L:Nat)),.bool b0,.bool b1,.bool b2,.bool b3,.bool b4,.bool b5,.bool off]) (results_cell_row Tryz.results145 _ _ (w.heap.size+2) 91 #[.int .i64 ((L:Nat)),.bool b0,.bool b1,.bool b2,.bool b3,.bool b4,.bool b5,.bool off] (0,0) _ rfl (((HC1.out.2.2.aA (g:=w.heap.size+1) (by omega) 0 (.int .i64 ((p:Int)+1))).aA (g:=w.heap.size+1) (by omega) 0 (.int .i64 ((L:Nat):Int))).setRow _).raw Tryz.underlying91 rfl Tryz.iState) rfl ⟨rfl,below_setRow ((HB1.out.setCell (p:=⟨w.heap.size+1,0,none⟩) (by simp) _).setCell (p:=⟨w.heap.size+1,0,none⟩) (by simp) _) (by omega) _⟩)
theorem EQ (zc:Int)(hzc:zc=124\/zc=93)(hd:Bool)(s:ByteArray)(lg p:Nat)(b0 b1 b2 b3 b4 b5 off comma:Bool)(w:World)(hs:s.size<=10000)(hp:p<=20000)(hch:atB s.data.toList p=zc)(L:Nat)(hlt:lg<w.heap.size)(hps:p<s.size)(hL:w.cell? ⟨lg,p,none⟩=some (.int .i64 ((L:Nat):Int))) :
  Calls Tryz.prog 145 #[.agg #[.bool hd,.string s,.slice (some ⟨lg,0,none⟩) s.size s.size],.agg #[.int .i64 ((p:Int)),.bool b0,.bool b1,.bool b2,.bool b3,.bool b4,.bool b5,.bool off],.bool comma] w fun e w'=>e=.returned (.agg #[.int .i64 ((L:Nat)),.bool b0,.bool b1,.bool b2,.bool b3,.bool b4,.bool b5,.bool off])/\Below w.heap.size w w':=by
 rcases hzc with rfl|rfl
 all_goals (
  have A4:=hide (fun W=>iF hd s (some ⟨lg,0,none⟩) s.size s.size p W hs hp)
  rw[hch] at A4
  clear hch
  go_enter Tryz.func145,Tryz.ntmps145
  go_wp2_with fail
  have HC0:=hide (Row.three w #[.bool hd,.string s,.slice (some ⟨lg,0,none⟩) s.size s.size] #[.int .i64 ((p:Int)),.bool b0,.bool b1,.bool b2,.bool b3,.bool b4,.bool b5,.bool off] #[.int .i64 0,.bool false,.bool false,.bool false,.bool false,.bool false,.bool false,.bool false] 88 91 91)
  have HB0:=hide (iR w (.cells #[.bool hd,.string s,.slice (some ⟨lg,0,none⟩) s.size s.size] 88) (.cells #[.int .i64 ((p:Int)),.bool b0,.bool b1,.bool b2,.bool b3,.bool b4,.bool b5,.bool off] 91) (.cells #[.int .i64 0,.bool false,.bool false,.bool false,.bool false,.bool false,.bool false,.bool false] 91))
  generalize ((w.alloc (.cells #[.bool hd,.string s,.slice (some ⟨lg,0,none⟩) s.size s.size] 88)).alloc (.cells #[.int .i64 ((p:Int)),.bool b0,.bool b1,.bool b2,.bool b3,.bool b4,.bool b5,.bool off] 91)).alloc (.cells #[.int .i64 0,.bool false,.bool false,.bool false,.bool false,.bool false,.bool false,.bool false] 91)=W at *
  go_at_call 105
  refine (A4.out _).mono ?_
  rintro e w1 ⟨rfl,aK⟩
  have HC1:=hide (And.intro (HC0.out.1.below aK) (And.intro (HC0.out.2.1.below aK) (HC0.out.2.2.below aK)))
  have HB1:=hide (ak HB0.out aK)
  clear HC0 HB0 A4 aK
  have v0:=HC1.out.2.1.frozen 0
  have v1:=HC1.out.2.1.cell 0 (v:=.int .i64 (p:Int)) rfl
  have x2:=HC1.out.1.cell 2 (v:=.slice (some ⟨lg,0,none⟩) s.size s.size) rfl
  have x3:w1.cell? ⟨lg,p,none⟩=some (.int .i64 ((L:Nat):Int)):=(HB1.out.cell (p:=⟨lg,p,none⟩) hlt).trans hL
  go_wp2_with (first|(refine wpList_load_row rfl 91 _ rfl _ rfl 91 #[.int .i64 ((L:Nat)),.bool b0,.bool b1,.bool b2,.bool b3,.bool b4,.bool b5,.bool off] (0,0) _ ?_ Tryz.underlying91 rfl Tryz.iState ?_;(exact (HC1.out.2.1.s80 (.int .i64 ((L:Nat):Int))).raw))|(refine wpList_store_row rfl 91 _ _ rfl (w.heap.size+2) #[.int .i64 ((L:Nat)),.bool b0,.bool b1,.bool b2,.bool b3,.bool b4,.bool b5,.bool off] rfl rfl 91 #[.int .i64 0,.bool false,.bool false,.bool false,.bool false,.bool false,.bool false,.bool false] ?_ Tryz.iState rfl (by simp[Value.oneCell']) ?_;(exact (HC1.out.2.2.aA (g:=w.heap.size+1) (by omega) 0 (.int .i64 ((L:Nat):Int))).raw)))
  exact bodyPost_ret (v:=.agg #[.int .i64 ((L:Nat)),.bool b0,.bool b1,.bool b2,.bool b3,.bool b4,.bool b5,.bool off]) (results_cell_row Tryz.results145 _ _ (w.heap.size+2) 91 #[.int .i64 ((L:Nat)),.bool b0,.bool b1,.bool b2,.bool b3,.bool b4,.bool b5,.bool off] (0,0) _ rfl ((HC1.out.2.2.aA (g:=w.heap.size+1) (by omega) 0 (.int .i64 ((L:Nat):Int))).setRow _).raw Tryz.underlying91 rfl Tryz.iState) rfl ⟨rfl,below_setRow (HB1.out.setCell (p:=⟨w.heap.size+1,0,none⟩) (by simp) _) (by omega) _⟩)
theorem RO (hd:Bool)(s:ByteArray)(lg p:Nat)(b0 b1 b2 b3 b4 b5 c0 c1 c2 c3 c4 c5 off comma:Bool)(w:World)(l:Nat)(hs:s.size<=10000)(hp:p<=20000)(hok:bG s.data.toList)(hch:atB s.data.toList p=43)(hl:l<6)(hn:aW s.data.toList p=(l:Int))(hput:∀W,Calls Tryz.prog 146 #[.agg #[.bool b0,.bool b1,.bool b2,.bool b3,.bool b4,.bool b5],.int .i64 l,.bool true] W fun e w'=>e=.returned (.agg #[.bool c0,.bool c1,.bool c2,.bool c3,.bool c4,.bool c5])/\Below W.heap.size W w') :
  Calls Tryz.prog 145 #[.agg #[.bool hd,.string s,.slice (some ⟨lg,0,none⟩) s.size s.size],.agg #[.int .i64 ((p:Int)),.bool b0,.bool b1,.bool b2,.bool b3,.bool b4,.bool b5,.bool off],.bool comma] w fun e w'=>e=.returned (.agg #[.int .i64 ((p:Int)+2),.bool c0,.bool c1,.bool c2,.bool c3,.bool c4,.bool c5,.bool off])/\Below w.heap.size w w':=by
 have A4:=hide (fun W=>iF hd s (some ⟨lg,0,none⟩) s.size s.size p W hs hp)
 have A1:=hide (fun W=>pO hd s (some ⟨lg,0,none⟩) s.size s.size p W hs hp hok)
 have A2:=hide hput
 clear hput
 rw[hch] at A4
 rw[hn] at A1
 clear hch hn hok
 obtain ⟨ud,hu,hdd⟩:=Tryz.uHeldR
 have HU:=hide hu
 have HD:=hide hdd
 clear hu hdd
 go_enter Tryz.func145,Tryz.ntmps145
 go_wp2_with fail
 have HC0:=hide (Row.three w #[.bool hd,.string s,.slice (some ⟨lg,0,none⟩) s.size s.size] #[.int .i64 ((p:Int)),.bool b0,.bool b1,.bool b2,.bool b3,.bool b4,.bool b5,.bool off] #[.int .i64 0,.bool false,.bool false,.bool false,.bool false,.bool false,.bool false,.bool false] 88 91 91)
 have HB0:=hide (iR w (.cells #[.bool hd,.string s,.slice (some ⟨lg,0,none⟩) s.size s.size] 88) (.cells #[.int .i64 ((p:Int)),.bool b0,.bool b1,.bool b2,.bool b3,.bool b4,.bool b5,.bool off] 91) (.cells #[.int .i64 0,.bool false,.bool false,.bool false,.bool false,.bool false,.bool false,.bool false] 91))
 generalize ((w.alloc (.cells #[.bool hd,.string s,.slice (some ⟨lg,0,none⟩) s.size s.size] 88)).alloc (.cells #[.int .i64 ((p:Int)),.bool b0,.bool b1,.bool b2,.bool b3,.bool b4,.bool b5,.bool off] 91)).alloc (.cells #[.int .i64 0,.bool false,.bool false,.bool false,.bool false,.bool false,.bool false,.bool false] 91)=W at *
 go_at_call 105
 refine (A4.out _).mono ?_
 rintro e w1 ⟨rfl,aK⟩
 have HC1:=hide (And.intro (HC0.out.1.below aK) (And.intro (HC0.out.2.1.below aK) (HC0.out.2.2.below aK)));have HB1:=hide (ak HB0.out aK);clear HC0 HB0 aK
 clear A4
 go_wp2_with (first|(refine wpList_load_row rfl 88 _ rfl _ rfl 88 #[.bool hd,.string s,.slice (some ⟨lg,0,none⟩) s.size s.size] (0,0) _ ?_ Tryz.underlying88 rfl Tryz.iCode ?_;(exact HC1.out.1.raw))|(go_at_call 129;refine (A1.out _).mono ?_;rintro e w2 ⟨rfl,hbw2⟩;have HC2:=hide (And.intro (HC1.out.1.below hbw2) (And.intro (HC1.out.2.1.below hbw2) (HC1.out.2.2.below hbw2)));have HB2:=hide (ak HB1.out hbw2);clear HC1 HB1 hbw2)|(refine wpList_load_mid rfl 89 _ rfl _ _ rfl [.bool b0,.bool b1,.bool b2,.bool b3,.bool b4,.bool b5] ud ?_ HU.out HD.out Tryz.iHeld ?_;(exact HC2.out.2.1.zH))|(go_at_call 146;refine (A2.out _).mono ?_;rintro e w3 ⟨rfl,gF⟩;have HC3:=hide (And.intro (HC2.out.1.below gF) (And.intro (HC2.out.2.1.below gF) (HC2.out.2.2.below gF)));have HB3:=hide (ak HB2.out gF);clear HC2 HB2 gF;have v0:=CF HC3.out.2.1 1 [.bool c0,.bool c1,.bool c2,.bool c3,.bool c4,.bool c5];have v1:=HC3.out.2.1.GK [.bool c0,.bool c1,.bool c2,.bool c3,.bool c4,.bool c5] rfl)|(refine wpList_store_mid rfl 89 _ _ rfl _ _ #[.bool c0,.bool c1,.bool c2,.bool c3,.bool c4,.bool c5] rfl rfl ?_ Tryz.iHeld (by simp[Value.oneCell']) ?_;(exact HC3.out.2.1.there 1 6 (by simp)))|(refine wpList_load_row rfl 91 _ rfl _ rfl 91 #[.int .i64 ((p:Int)+2),.bool c0,.bool c1,.bool c2,.bool c3,.bool c4,.bool c5,.bool off] (0,0) _ ?_ Tryz.underlying91 rfl Tryz.iState ?_;(exact ((HC3.out.2.1.s86 (.bool c0) (.bool c1) (.bool c2) (.bool c3) (.bool c4) (.bool c5)).s80 (.int .i64 ((p:Int)+2))).raw))|(refine wpList_store_row rfl 91 _ _ rfl (w.heap.size+2) #[.int .i64 ((p:Int)+2),.bool c0,.bool c1,.bool c2,.bool c3,.bool c4,.bool c5,.bool off] rfl rfl 91 #[.int .i64 0,.bool false,.bool false,.bool false,.bool false,.bool false,.bool false,.bool false] ?_ Tryz.iState rfl (by simp[Value.oneCell']) ?_;(exact ((HC3.out.2.2.kK (g:=w.heap.size+1) (by omega) 1 [.bool c0,.bool c1,.bool c2,.bool c3,.bool c4,.bool c5]).aA (g:=w.heap.size+1) (by omega) 0 (.int .i64 ((p:Int)+2))).raw)))
 exact bodyPost_ret (v:=.agg #[.int .i64 ((p:Int)+2),.bool c0,.bool c1,.bool c2,.bool c3,.bool c4,.bool c5,.bool off]) (results_cell_row Tryz.results145 _ _ (w.heap.size+2) 91 #[.int .i64 ((p:Int)+2),.bool c0,.bool c1,.bool c2,.bool c3,.bool c4,.bool c5,.bool off] (0,0) _ rfl (((HC3.out.2.2.kK (g:=w.heap.size+1) (by omega) 1 [.bool c0,.bool c1,.bool c2,.bool c3,.bool c4,.bool c5]).aA (g:=w.heap.size+1) (by omega) 0 (.int .i64 ((p:Int)+2))).setRow _).raw Tryz.underlying91 rfl Tryz.iState) rfl ⟨rfl,below_setRow ((Below.setCells (w.heap.size+1) (by omega) [.bool c0,.bool c1,.bool c2,.bool c3,.bool c4,.bool c5] 1 _ HB3.out).setCell (p:=⟨w.heap.size+1,0,none⟩) (by simp) _) (by omega) _⟩
theorem RQ (hd:Bool)(s:ByteArray)(lg p:Nat)(b0 b1 b2 b3 b4 b5 c0 c1 c2 c3 c4 c5 off comma:Bool)(w:World)(l:Nat)(hs:s.size<=10000)(hp:p<=20000)(hok:bG s.data.toList)(hch:atB s.data.toList p=45)(hl:l<6)(hn:aW s.data.toList p=(l:Int))(hput:∀W,Calls Tryz.prog 146 #[.agg #[.bool b0,.bool b1,.bool b2,.bool b3,.bool b4,.bool b5],.int .i64 l,.bool false] W fun e w'=>e=.returned (.agg #[.bool c0,.bool c1,.bool c2,.bool c3,.bool c4,.bool c5])/\Below W.heap.size W w') :
  Calls Tryz.prog 145 #[.agg #[.bool hd,.string s,.slice (some ⟨lg,0,none⟩) s.size s.size],.agg #[.int .i64 ((p:Int)),.bool b0,.bool b1,.bool b2,.bool b3,.bool b4,.bool b5,.bool off],.bool comma] w fun e w'=>e=.returned (.agg #[.int .i64 ((p:Int)+2),.bool c0,.bool c1,.bool c2,.bool c3,.bool c4,.bool c5,.bool off])/\Below w.heap.size w w':=by
 have A4:=hide (fun W=>iF hd s (some ⟨lg,0,none⟩) s.size s.size p W hs hp)
 have A1:=hide (fun W=>pO hd s (some ⟨lg,0,none⟩) s.size s.size p W hs hp hok)
 have A2:=hide hput
 clear hput
 rw[hch] at A4
 rw[hn] at A1
 clear hch hn hok
 obtain ⟨ud,hu,hdd⟩:=Tryz.uHeldR
 have HU:=hide hu
 have HD:=hide hdd
 clear hu hdd
 go_enter Tryz.func145,Tryz.ntmps145
 go_wp2_with fail
 have HC0:=hide (Row.three w #[.bool hd,.string s,.slice (some ⟨lg,0,none⟩) s.size s.size] #[.int .i64 ((p:Int)),.bool b0,.bool b1,.bool b2,.bool b3,.bool b4,.bool b5,.bool off] #[.int .i64 0,.bool false,.bool false,.bool false,.bool false,.bool false,.bool false,.bool false] 88 91 91)
 have HB0:=hide (iR w (.cells #[.bool hd,.string s,.slice (some ⟨lg,0,none⟩) s.size s.size] 88) (.cells #[.int .i64 ((p:Int)),.bool b0,.bool b1,.bool b2,.bool b3,.bool b4,.bool b5,.bool off] 91) (.cells #[.int .i64 0,.bool false,.bool false,.bool false,.bool false,.bool false,.bool false,.bool false] 91))
 generalize ((w.alloc (.cells #[.bool hd,.string s,.slice (some ⟨lg,0,none⟩) s.size s.size] 88)).alloc (.cells #[.int .i64 ((p:Int)),.bool b0,.bool b1,.bool b2,.bool b3,.bool b4,.bool b5,.bool off] 91)).alloc (.cells #[.int .i64 0,.bool false,.bool false,.bool false,.bool false,.bool false,.bool false,.bool false] 91)=W at *
 go_at_call 105
 refine (A4.out _).mono ?_
 rintro e w1 ⟨rfl,aK⟩
 have HC1:=hide (And.intro (HC0.out.1.below aK) (And.intro (HC0.out.2.1.below aK) (HC0.out.2.2.below aK)));have HB1:=hide (ak HB0.out aK);clear HC0 HB0 aK
 clear A4
 go_wp2_with (first|(refine wpList_load_row rfl 88 _ rfl _ rfl 88 #[.bool hd,.string s,.slice (some ⟨lg,0,none⟩) s.size s.size] (0,0) _ ?_ Tryz.underlying88 rfl Tryz.iCode ?_;(exact HC1.out.1.raw))|(go_at_call 129;refine (A1.out _).mono ?_;rintro e w2 ⟨rfl,hbw2⟩;have HC2:=hide (And.intro (HC1.out.1.below hbw2) (And.intro (HC1.out.2.1.below hbw2) (HC1.out.2.2.below hbw2)));have HB2:=hide (ak HB1.out hbw2);clear HC1 HB1 hbw2)|(refine wpList_load_mid rfl 89 _ rfl _ _ rfl [.bool b0,.bool b1,.bool b2,.bool b3,.bool b4,.bool b5] ud ?_ HU.out HD.out Tryz.iHeld ?_;(exact HC2.out.2.1.zH))|(go_at_call 146;refine (A2.out _).mono ?_;rintro e w3 ⟨rfl,gF⟩;have HC3:=hide (And.intro (HC2.out.1.below gF) (And.intro (HC2.out.2.1.below gF) (HC2.out.2.2.below gF)));have HB3:=hide (ak HB2.out gF);clear HC2 HB2 gF;have v0:=CF HC3.out.2.1 1 [.bool c0,.bool c1,.bool c2,.bool c3,.bool c4,.bool c5];have v1:=HC3.out.2.1.GK [.bool c0,.bool c1,.bool c2,.bool c3,.bool c4,.bool c5] rfl)|(refine wpList_store_mid rfl 89 _ _ rfl _ _ #[.bool c0,.bool c1,.bool c2,.bool c3,.bool c4,.bool c5] rfl rfl ?_ Tryz.iHeld (by simp[Value.oneCell']) ?_;(exact HC3.out.2.1.there 1 6 (by simp)))|(refine wpList_load_row rfl 91 _ rfl _ rfl 91 #[.int .i64 ((p:Int)+2),.bool c0,.bool c1,.bool c2,.bool c3,.bool c4,.bool c5,.bool off] (0,0) _ ?_ Tryz.underlying91 rfl Tryz.iState ?_;(exact ((HC3.out.2.1.s86 (.bool c0) (.bool c1) (.bool c2) (.bool c3) (.bool c4) (.bool c5)).s80 (.int .i64 ((p:Int)+2))).raw))|(refine wpList_store_row rfl 91 _ _ rfl (w.heap.size+2) #[.int .i64 ((p:Int)+2),.bool c0,.bool c1,.bool c2,.bool c3,.bool c4,.bool c5,.bool off] rfl rfl 91 #[.int .i64 0,.bool false,.bool false,.bool false,.bool false,.bool false,.bool false,.bool false] ?_ Tryz.iState rfl (by simp[Value.oneCell']) ?_;(exact ((HC3.out.2.2.kK (g:=w.heap.size+1) (by omega) 1 [.bool c0,.bool c1,.bool c2,.bool c3,.bool c4,.bool c5]).aA (g:=w.heap.size+1) (by omega) 0 (.int .i64 ((p:Int)+2))).raw)))
 exact bodyPost_ret (v:=.agg #[.int .i64 ((p:Int)+2),.bool c0,.bool c1,.bool c2,.bool c3,.bool c4,.bool c5,.bool off]) (results_cell_row Tryz.results145 _ _ (w.heap.size+2) 91 #[.int .i64 ((p:Int)+2),.bool c0,.bool c1,.bool c2,.bool c3,.bool c4,.bool c5,.bool off] (0,0) _ rfl (((HC3.out.2.2.kK (g:=w.heap.size+1) (by omega) 1 [.bool c0,.bool c1,.bool c2,.bool c3,.bool c4,.bool c5]).aA (g:=w.heap.size+1) (by omega) 0 (.int .i64 ((p:Int)+2))).setRow _).raw Tryz.underlying91 rfl Tryz.iState) rfl ⟨rfl,below_setRow ((Below.setCells (w.heap.size+1) (by omega) [.bool c0,.bool c1,.bool c2,.bool c3,.bool c4,.bool c5] 1 _ HB3.out).setCell (p:=⟨w.heap.size+1,0,none⟩) (by simp) _) (by omega) _⟩
theorem Qi (hd:Bool)(s:ByteArray)(lg p:Nat)(b0 b1 b2 b3 b4 b5 off comma:Bool)(w:World)(hs:s.size<=10000)(hp:p<=20000)(hch:atB s.data.toList p=101) :
  Calls Tryz.prog 145 #[.agg #[.bool hd,.string s,.slice (some ⟨lg,0,none⟩) s.size s.size],.agg #[.int .i64 ((p:Int)),.bool b0,.bool b1,.bool b2,.bool b3,.bool b4,.bool b5,.bool off],.bool comma] w fun e w'=>e=.returned (.agg #[.int .i64 ((p:Int)),.bool b0,.bool b1,.bool b2,.bool b3,.bool b4,.bool b5,.bool off])/\Below w.heap.size w w':=by
 have A4:=hide (fun W=>iF hd s (some ⟨lg,0,none⟩) s.size s.size p W hs hp)
 rw[hch] at A4
 clear hch
 go_enter Tryz.func145,Tryz.ntmps145
 go_wp2_with fail
 have HC0:=hide (Row.three w #[.bool hd,.string s,.slice (some ⟨lg,0,none⟩) s.size s.size] #[.int .i64 ((p:Int)),.bool b0,.bool b1,.bool b2,.bool b3,.bool b4,.bool b5,.bool off] #[.int .i64 0,.bool false,.bool false,.bool false,.bool false,.bool false,.bool false,.bool false] 88 91 91)
 have HB0:=hide (iR w (.cells #[.bool hd,.string s,.slice (some ⟨lg,0,none⟩) s.size s.size] 88) (.cells #[.int .i64 ((p:Int)),.bool b0,.bool b1,.bool b2,.bool b3,.bool b4,.bool b5,.bool off] 91) (.cells #[.int .i64 0,.bool false,.bool false,.bool false,.bool false,.bool false,.bool false,.bool false] 91))
 generalize ((w.alloc (.cells #[.bool hd,.string s,.slice (some ⟨lg,0,none⟩) s.size s.size] 88)).alloc (.cells #[.int .i64 ((p:Int)),.bool b0,.bool b1,.bool b2,.bool b3,.bool b4,.bool b5,.bool off] 91)).alloc (.cells #[.int .i64 0,.bool false,.bool false,.bool false,.bool false,.bool false,.bool false,.bool false] 91)=W at *
 go_at_call 105
 refine (A4.out _).mono ?_
 rintro e w1 ⟨rfl,aK⟩
 have HC1:=hide (And.intro (HC0.out.1.below aK) (And.intro (HC0.out.2.1.below aK) (HC0.out.2.2.below aK)))
 have HB1:=hide (ak HB0.out aK)
 clear HC0 HB0 A4 aK
 go_wp2_with (first|(refine wpList_load_row rfl 91 _ rfl _ rfl 91 #[.int .i64 ((p:Int)),.bool b0,.bool b1,.bool b2,.bool b3,.bool b4,.bool b5,.bool off] (0,0) _ ?_ Tryz.underlying91 rfl Tryz.iState ?_;(exact HC1.out.2.1.raw))|(refine wpList_store_row rfl 91 _ _ rfl (w.heap.size+2) #[.int .i64 ((p:Int)),.bool b0,.bool b1,.bool b2,.bool b3,.bool b4,.bool b5,.bool off] rfl rfl 91 #[.int .i64 0,.bool false,.bool false,.bool false,.bool false,.bool false,.bool false,.bool false] ?_ Tryz.iState rfl (by simp[Value.oneCell']) ?_;(exact HC1.out.2.2.raw)))
 exact bodyPost_ret (v:=.agg #[.int .i64 ((p:Int)),.bool b0,.bool b1,.bool b2,.bool b3,.bool b4,.bool b5,.bool off]) (results_cell_row Tryz.results145 _ _ (w.heap.size+2) 91 #[.int .i64 ((p:Int)),.bool b0,.bool b1,.bool b2,.bool b3,.bool b4,.bool b5,.bool off] (0,0) _ rfl (HC1.out.2.2.setRow _).raw Tryz.underlying91 rfl Tryz.iState) rfl ⟨rfl,below_setRow HB1.out (by omega) _⟩
theorem Qj (hd:Bool)(s:ByteArray)(lg p h:Nat)(off comma:Bool)(w:World)(hs:s.size<=10000)(hp:p<=20000)(hh:h<64)(hok:bG s.data.toList)(hk:jS (atB s.data.toList p))(hL:Blk w lg s.size (fun i=>.int .i64 ((leads s.data.toList i:Nat):Int)))(hfa:aB hd s.data.toList p h off=0) :
  Calls Tryz.prog 145 #[.agg #[.bool hd,.string s,.slice (some ⟨lg,0,none⟩) s.size s.size],.agg (stA p h off),.bool comma] w fun e w'=>e=.returned (.agg (stA (aG s.data.toList p h off comma).1 (aG s.data.toList p h off comma).2.1 (aG s.data.toList p h off comma).2.2))/\Below w.heap.size w w':=by
 have hlt:=hL.lt
 have hpl:atB s.data.toList p≠101->p<s.size:=fun h=>by have:=kG h;rwa [Wd.aI] at this
 unfold jS at hk
 rcases hk with e|e|e|e|e|e|e|e|e|e|e|e|e
 ·have hn:=jD hok (Or.inl e)
  obtain ⟨l,hl⟩:∃l:Nat,num s.data.toList p=(l:Int):=⟨(num s.data.toList p).toNat,by omega⟩
  have hl6:l<6:=by omega
  have hnp:aW s.data.toList p=(l:Int):=by rw[aW,if_pos (Or.inl e),hl]
  have hb:h.testBit l=false:=by
   unfold aB at hfa
   rw[if_pos e,hnp] at hfa
   cases hq:h.testBit l
   ·rfl
   ·simp[hasB,hl6,holds,hq] at hfa;omega
  have key:aG s.data.toList p h off comma=(p+2,h+2 ^ l,off):=by simp[aG,e,hl]
  rw[key]
  have hput:=fun W=>xH (h.testBit 0) (h.testBit 1) (h.testBit 2) (h.testBit 3) (h.testBit 4) (h.testBit 5) true l W hl6
  refine (RO hd s lg p _ _ _ _ _ _ _ _ _ _ _ _ off comma w l hs hp hok e hl6 hnp hput).mono ?_
  rintro e w' ⟨rfl,hb'⟩
  refine ⟨?_,hb'⟩
  simp only[stA,qm h hh l hl6 hb 0 (by omega),qm h hh l hl6 hb 1 (by omega),qm h hh l hl6 hb 2 (by omega),qm h hh l hl6 hb 3 (by omega),qm h hh l hl6 hb 4 (by omega),qm h hh l hl6 hb 5 (by omega)]
  rfl
 ·have hn:=jD hok (Or.inr e)
  obtain ⟨l,hl⟩:∃l:Nat,num s.data.toList p=(l:Int):=⟨(num s.data.toList p).toNat,by omega⟩
  have hl6:l<6:=by omega
  have hnp:aW s.data.toList p=(l:Int):=by rw[aW,if_pos (Or.inr (Or.inl e)),hl]
  have hb:h.testBit l=true:=by
   unfold aB at hfa
   rw[if_neg (by omega),if_pos e,hnp] at hfa
   cases hq:h.testBit l
   ·simp[hasB,hl6,holds,hq] at hfa
   ·rfl
  have key:aG s.data.toList p h off comma=(p+2,h-2 ^ l,off):=by simp[aG,e,hl]
  rw[key]
  have hput:=fun W=>xH (h.testBit 0) (h.testBit 1) (h.testBit 2) (h.testBit 3) (h.testBit 4) (h.testBit 5) false l W hl6
  refine (RQ hd s lg p _ _ _ _ _ _ _ _ _ _ _ _ off comma w l hs hp hok e hl6 hnp hput).mono ?_
  rintro e w' ⟨rfl,hb'⟩
  refine ⟨?_,hb'⟩
  simp only[stA,qo h hh l hl6 hb 0 (by omega),qo h hh l hl6 hb 1 (by omega),qo h hh l hl6 hb 2 (by omega),qo h hh l hl6 hb 3 (by omega),qo h hh l hl6 hb 4 (by omega),qo h hh l hl6 hb 5 (by omega)]
  rfl
 ·have key:aG s.data.toList p h off comma=(p+2,h,off):=by simp[aG,e]
  rw[key];exact EN 114 (Or.inl rfl) hd s lg p _ _ _ _ _ _ off comma w hs hp e
 ·have key:aG s.data.toList p h off comma=(p+2,h,off):=by simp[aG,e]
  rw[key];exact EN 119 (Or.inr rfl) hd s lg p _ _ _ _ _ _ off comma w hs hp e
 ·have key:aG s.data.toList p h off comma=(p+1,h,true):=by simp[aG,e]
  rw[key];exact RJ hd s lg p _ _ _ _ _ _ off comma w hs hp e
 ·have key:aG s.data.toList p h off comma=(p+1,h,false):=by simp[aG,e]
  rw[key];exact RN hd s lg p _ _ _ _ _ _ off comma w hs hp e
 ·have hps:=hpl (by omega)
  cases comma
  ·have key:aG s.data.toList p h off false=(p+1,h,off):=by simp[aG,e]
   rw[key];exact Fu 40 (Or.inl rfl) hd s lg p _ _ _ _ _ _ off w hs hp e
  ·have key:aG s.data.toList p h off true=(leads s.data.toList p,h,off):=by simp[aG,e]
   rw[key];exact EP 40 (Or.inl rfl) hd s lg p _ _ _ _ _ _ off w hs hp e _ hlt hps (hL.cell p hps)
 ·have hps:=hpl (by omega)
  cases comma
  ·have key:aG s.data.toList p h off false=(p+1,h,off):=by simp[aG,e]
   rw[key];exact Fu 91 (Or.inr rfl) hd s lg p _ _ _ _ _ _ off w hs hp e
  ·have key:aG s.data.toList p h off true=(leads s.data.toList p,h,off):=by simp[aG,e]
   rw[key];exact EP 91 (Or.inr rfl) hd s lg p _ _ _ _ _ _ off w hs hp e _ hlt hps (hL.cell p hps)
 ·have hps:=hpl (by omega)
  have key:aG s.data.toList p h off comma=(leads s.data.toList p,h,off):=by simp[aG,e]
  rw[key];exact EQ 124 (Or.inl rfl) hd s lg p _ _ _ _ _ _ off comma w hs hp e _ hlt hps (hL.cell p hps)
 ·have hps:=hpl (by omega)
  have key:aG s.data.toList p h off comma=(leads s.data.toList p,h,off):=by simp[aG,e]
  rw[key];exact EQ 93 (Or.inr rfl) hd s lg p _ _ _ _ _ _ off comma w hs hp e _ hlt hps (hL.cell p hps)
 ·have key:aG s.data.toList p h off comma=(p+1,h,off):=by simp[aG,e]
  rw[key];exact EO 122 (Or.inl rfl) hd s lg p _ _ _ _ _ _ off comma w hs hp e
 ·have key:aG s.data.toList p h off comma=(p+1,h,off):=by simp[aG,e]
  rw[key];exact EO 41 (Or.inr rfl) hd s lg p _ _ _ _ _ _ off comma w hs hp e
 ·have key:aG s.data.toList p h off comma=(p,h,off):=by simp[aG,e]
  rw[key];exact Qi hd s lg p _ _ _ _ _ _ off comma w hs hp e
end
end Go.Proofs.YtecmfdkhcffpmaaGreat
