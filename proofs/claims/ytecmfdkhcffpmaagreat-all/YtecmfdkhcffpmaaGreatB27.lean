/- ProgH, CodeX, ProgG, ProgI. -/
import Derived.Test.YtecmfdkhcffpmaaGreatB26
import Derived.Test.YtecmfdkhcffpmaaGreatB14
import Derived.Test.YtecmfdkhcffpmaaGreatB23
namespace Go.Proofs.YtecmfdkhcffpmaaGreat
open Go.RowKit
set_option linter.unusedVariables false
set_option linter.unusedSimpArgs false
set_option linter.unusedSectionVars false
set_option maxHeartbeats 8000000
set_option maxRecDepth 100000
section
open Mc
theorem results_cell_tmp {P:Program}{fn:Func}{u p:Tmp}{ty:TypeId}(h:fn.results=#[.cell p ty,.tmp u])(tmps:Array Value)(w:World)(g:Nat)(t:TypeId)(cs:Array Value)(fr:Nat×Nat)(d:TypeDesc)
  (hp:tmps.getD p undef=.pointer (some ⟨g,0,none⟩)) (hg:w.heap[g]?=some (.cells cs t fr))
  (hu:P.underlying ty=some d) (hd:(match d with | .struct _ | .array _ _=>true|_=>false)=true) (hi:(P.info? ty).map (·.size)=some cs.size) (v:Value) (hv:tmps.getD u undef=v) :
  (results fn tmps).run P w=.ok (.tuple #[.agg cs,v]) w:=by
 have hp':tmps[p]?.getD undef=.pointer (some ⟨g,0,none⟩):=by simpa using hp
 have hv':tmps[u]?.getD undef=v:=by simpa using hv
 simp[results,h,hp',hv',asAddr,run_loadVar_row w g t ty cs fr d hg hu hd hi]
theorem Tryz.iStA (p h:Nat)(off:Bool):(Tryz.prog.info? 91).map (·.size)=some (stA p h off).size:=Tryz.iState
theorem vU (p h:Nat)(off:Bool):(stA p h off)[0]?=some (.int .i64 (p:Int)):=rfl
theorem CG (hd:Bool)(s:ByteArray)(la:Option Addr)(ln lc:Nat)(w:World)(hs:s.size<=10000) :
  Calls Tryz.prog 124 #[.agg #[.bool hd,.string s,.slice la ln lc]] w fun e w'=>e=.returned (.int .i64 s.size)/\Below w.heap.size w w':=by
 go_enter Tryz.func124,Tryz.ntmps124
 go_wp2
 go_ret
 exact ⟨rfl,(Below.refl _ _).alloc (Nat.le_refl _) _⟩
theorem IY (hd:Bool)(s:ByteArray)(la:Option Addr)(ln lc:Nat)(w:World) :
  Calls Tryz.prog 104 #[.agg #[.bool hd,.string s,.slice la ln lc]] w fun e w'=>e=.returned (.agg (stA 0 0 hd))/\Below w.heap.size w w':=by
 go_enter Tryz.func104,Tryz.ntmps104
 go_wp2
 exact bodyPost_ret (v:=.agg (stA 0 0 hd)) (results_cell_row Tryz.results104 _ _ (w.heap.size+1) 91 (stA 0 0 hd) (0,0) _ rfl (heap_alloc2_new _ _ _) Tryz.underlying91 rfl Tryz.iState) rfl ⟨rfl,((Below.refl _ _).alloc (Nat.le_refl _) _).alloc (by simp) _⟩
theorem Qk (hd:Bool)(s:ByteArray)(lg p h:Nat)(off comma:Bool)(w:World)(hs:s.size<=10000)(hp:p<=20000)(hh:h<64)(hok:bG s.data.toList)(f:Int)(hf:aB hd s.data.toList p h off=f)(hf0:f≠0) :
  Calls Tryz.prog 128 #[.agg #[.bool hd,.string s,.slice (some ⟨lg,0,none⟩) s.size s.size],.agg (stA p h off),.bool comma] w fun e w'=>e=.returned (.tuple #[.agg (stA p h off),.int .u8 f])/\Below w.heap.size w w':=by
 have AF:Hid (∀W,Calls Tryz.prog 103 #[.agg #[.bool hd,.string s,.slice (some ⟨lg,0,none⟩) s.size s.size],.agg (stA p h off)] W fun e w'=>e=.returned (.int .u8 (aB hd s.data.toList p h off))/\Below W.heap.size W w'):=hide (fun W=>yL hd s (some ⟨lg,0,none⟩) s.size s.size p h off W hs hp hh hok)
 rw[hf] at AF
 have tf:(f != 0)=true:=by simp[hf0]
 clear hf hf0 hok
 go_enter Tryz.func128,Tryz.ntmps128
 go_wp2_with (first|(refine wpList_load_row rfl 91 _ rfl _ rfl 91 (stA p h off) (0,0) _ ?_ Tryz.underlying91 rfl (Tryz.iStA _ _ _) ?_;(exact (Row.three w #[.bool hd,.string s,.slice (some ⟨lg,0,none⟩) s.size s.size] (stA p h off) #[.int .i64 0,.bool false,.bool false,.bool false,.bool false,.bool false,.bool false,.bool false] 88 91 91).2.1.raw)))
 have HC0:=hide (Row.three w #[.bool hd,.string s,.slice (some ⟨lg,0,none⟩) s.size s.size] (stA p h off) #[.int .i64 0,.bool false,.bool false,.bool false,.bool false,.bool false,.bool false,.bool false] 88 91 91)
 have HB0:=hide (iR w (.cells #[.bool hd,.string s,.slice (some ⟨lg,0,none⟩) s.size s.size] 88) (.cells (stA p h off) 91) (.cells #[.int .i64 0,.bool false,.bool false,.bool false,.bool false,.bool false,.bool false,.bool false] 91))
 generalize ((w.alloc (.cells #[.bool hd,.string s,.slice (some ⟨lg,0,none⟩) s.size s.size] 88)).alloc (.cells (stA p h off) 91)).alloc (.cells #[.int .i64 0,.bool false,.bool false,.bool false,.bool false,.bool false,.bool false,.bool false] 91)=W at *
 go_at_call 103
 refine (AF.out _).mono ?_
 rintro e w1 ⟨rfl,aK⟩
 have HC1:=hide (And.intro (HC0.out.1.below aK) (And.intro (HC0.out.2.1.below aK) (HC0.out.2.2.below aK)));have HB1:=hide (ak HB0.out aK);clear aK
 clear AF
 go_wp2_with (first|(refine wpList_load_row rfl 91 _ rfl _ rfl 91 (stA p h off) (0,0) _ ?_ Tryz.underlying91 rfl (Tryz.iStA _ _ _) ?_;(exact HC1.out.2.1.raw))|(refine wpList_store_row rfl 91 _ _ rfl (w.heap.size+2) (stA p h off) rfl rfl 91 #[.int .i64 0,.bool false,.bool false,.bool false,.bool false,.bool false,.bool false,.bool false] ?_ (Tryz.iStA _ _ _) rfl (ny _ _ _) ?_;(exact HC1.out.2.2.raw)))
 exact bodyPost_ret (v:=.tuple #[.agg (stA p h off),.int .u8 f]) (results_cell_tmp Tryz.results128 _ _ (w.heap.size+2) 91 (stA p h off) (0,0) _ rfl (HC1.out.2.2.setRow _).raw Tryz.underlying91 rfl (Tryz.iStA _ _ _) _ rfl) rfl ⟨rfl,below_setRow HB1.out (by omega) _⟩
theorem Oi (hd:Bool)(s:ByteArray)(lg p h:Nat)(off comma:Bool)(w:World)(hs:s.size<=10000)(hp:p<=20000)(hh:h<64)(hok:bG s.data.toList)(hk:jS (atB s.data.toList p))(hL:Blk w lg s.size (fun i=>.int .i64 ((leads s.data.toList i:Nat):Int)))(hfa:aB hd s.data.toList p h off=0)(n:Nat×Nat×Bool)(hn:aG s.data.toList p h off comma=n)(ch:Int)(hch:atB s.data.toList p=ch) :
  Calls Tryz.prog 128 #[.agg #[.bool hd,.string s,.slice (some ⟨lg,0,none⟩) s.size s.size],.agg (stA p h off),.bool comma] w fun e w'=>e=.returned (.tuple #[.agg (stA n.1 n.2.1 n.2.2),.int .u8 ch])/\Below w.heap.size w w':=by
 have AF:Hid (∀W,Calls Tryz.prog 103 #[.agg #[.bool hd,.string s,.slice (some ⟨lg,0,none⟩) s.size s.size],.agg (stA p h off)] W fun e w'=>e=.returned (.int .u8 (aB hd s.data.toList p h off))/\Below W.heap.size W w'):=hide (fun W=>yL hd s (some ⟨lg,0,none⟩) s.size s.size p h off W hs hp hh hok)
 have A4:=hide (fun W=>iF hd s (some ⟨lg,0,none⟩) s.size s.size p W hs hp)
 have AN:=hide (fun W (hLW:Blk W lg s.size (fun i=>.int .i64 ((leads s.data.toList i:Nat):Int)))=>Qj hd s lg p h off comma W hs hp hh hok hk hLW hfa)
 rw[hn] at AN
 rw[hch] at A4
 rw[hfa] at AF
 have HL:=hide hL
 clear hfa hk hok hn hch hL
 go_enter Tryz.func128,Tryz.ntmps128
 go_wp2_with (first|(refine wpList_load_row rfl 91 _ rfl _ rfl 91 (stA p h off) (0,0) _ ?_ Tryz.underlying91 rfl (Tryz.iStA _ _ _) ?_;(exact (Row.three w #[.bool hd,.string s,.slice (some ⟨lg,0,none⟩) s.size s.size] (stA p h off) #[.int .i64 0,.bool false,.bool false,.bool false,.bool false,.bool false,.bool false,.bool false] 88 91 91).2.1.raw)))
 have HC0:=hide (Row.three w #[.bool hd,.string s,.slice (some ⟨lg,0,none⟩) s.size s.size] (stA p h off) #[.int .i64 0,.bool false,.bool false,.bool false,.bool false,.bool false,.bool false,.bool false] 88 91 91)
 have HB0:=hide (iR w (.cells #[.bool hd,.string s,.slice (some ⟨lg,0,none⟩) s.size s.size] 88) (.cells (stA p h off) 91) (.cells #[.int .i64 0,.bool false,.bool false,.bool false,.bool false,.bool false,.bool false,.bool false] 91))
 generalize ((w.alloc (.cells #[.bool hd,.string s,.slice (some ⟨lg,0,none⟩) s.size s.size] 88)).alloc (.cells (stA p h off) 91)).alloc (.cells #[.int .i64 0,.bool false,.bool false,.bool false,.bool false,.bool false,.bool false,.bool false] 91)=W at *
 go_at_call 103
 refine (AF.out _).mono ?_
 rintro e w1 ⟨rfl,aK⟩
 have HC1:=hide (And.intro (HC0.out.1.below aK) (And.intro (HC0.out.2.1.below aK) (HC0.out.2.2.below aK)));have HB1:=hide (ak HB0.out aK);clear aK
 clear AF
 have v1:=HC1.out.2.1.cell 0 (vU p h off)
 go_wp2_with (first|(refine wpList_load_row rfl 88 _ rfl _ rfl 88 #[.bool hd,.string s,.slice (some ⟨lg,0,none⟩) s.size s.size] (0,0) _ ?_ Tryz.underlying88 rfl Tryz.iCode ?_;(exact HC1.out.1.raw)))
 go_at_call 105
 refine (A4.out _).mono ?_
 rintro e w2 ⟨rfl,hbw2⟩
 have HC2:=hide (And.intro (HC1.out.1.below hbw2) (And.intro (HC1.out.2.1.below hbw2) (HC1.out.2.2.below hbw2)));have HB2:=hide (ak HB1.out hbw2);clear hbw2
 go_wp2_with (first|(refine wpList_load_row rfl 88 _ rfl _ rfl 88 #[.bool hd,.string s,.slice (some ⟨lg,0,none⟩) s.size s.size] (0,0) _ ?_ Tryz.underlying88 rfl Tryz.iCode ?_;(exact HC2.out.1.raw))|(refine wpList_load_row rfl 91 _ rfl _ rfl 91 (stA p h off) (0,0) _ ?_ Tryz.underlying91 rfl (Tryz.iStA _ _ _) ?_;(exact HC2.out.2.1.raw))|(go_at_call 145;refine (AN.out _ (HL.out.below HB2.out)).mono ?_;rintro e w3 ⟨rfl,gF⟩;have HC3:=hide (And.intro (HC2.out.1.below gF) (And.intro (HC2.out.2.1.below gF) (HC2.out.2.2.below gF)));have HB3:=hide (ak HB2.out gF);clear gF)|(refine wpList_store_row rfl 91 _ _ rfl (w.heap.size+2) (stA n.1 n.2.1 n.2.2) rfl rfl 91 #[.int .i64 0,.bool false,.bool false,.bool false,.bool false,.bool false,.bool false,.bool false] ?_ (Tryz.iStA _ _ _) rfl (ny _ _ _) ?_;(exact HC3.out.2.2.raw)))
 exact bodyPost_ret (v:=.tuple #[.agg (stA n.1 n.2.1 n.2.2),.int .u8 ch]) (results_cell_tmp Tryz.results128 _ _ (w.heap.size+2) 91 (stA n.1 n.2.1 n.2.2) (0,0) _ rfl (HC3.out.2.2.setRow _).raw Tryz.underlying91 rfl (Tryz.iStA _ _ _) _ rfl) rfl ⟨rfl,below_setRow HB3.out (by omega) _⟩
theorem uD (hd:Bool)(s:ByteArray)(lg p h:Nat)(off comma:Bool)(w:World)(hs:s.size<=10000)(hp:p<=20000)(hh:h<64)(hok:bG s.data.toList)(hk:jS (atB s.data.toList p))(hL:Blk w lg s.size (fun i=>.int .i64 ((leads s.data.toList i:Nat):Int))) :
  Calls Tryz.prog 128 #[.agg #[.bool hd,.string s,.slice (some ⟨lg,0,none⟩) s.size s.size],.agg (stA p h off),.bool comma] w fun e w'=>e=.returned (.tuple #[.agg (stA (aS hd s.data.toList p h off comma).1.1 (aS hd s.data.toList p h off comma).1.2.1 (aS hd s.data.toList p h off comma).1.2.2),.int .u8 (aS hd s.data.toList p h off comma).2])/\Below w.heap.size w w':=by
 by_cases hf:aB hd s.data.toList p h off=0
 ·have e:aS hd s.data.toList p h off comma=(aG s.data.toList p h off comma,atB s.data.toList p):=by simp[aS,hf]
  rw[e]
  exact Oi hd s lg p h off comma w hs hp hh hok hk hL hf _ rfl _ rfl
 ·have e:aS hd s.data.toList p h off comma=((p,h,off),aB hd s.data.toList p h off):=by simp[aS,hf]
  rw[e]
  exact Qk hd s lg p h off comma w hs hp hh hok _ rfl hf
end
section
open Mc
theorem ay {g b:Nat}(hne:g≠b){w:World}{o i:Nat}{v:Value}:(w.setCell ⟨b,o,none⟩ v).cell? ⟨g,i,none⟩=w.cell? ⟨g,i,none⟩:=by
 have:=heap_setCell_other w ⟨b,o,none⟩ g v hne
 simp only[World.cell?,this]
theorem uS (hd:Bool)(s:ByteArray)(la:Option Addr)(ln lc:Nat)(w:World) :
  Calls Tryz.prog 104 #[.agg #[.bool hd,.string s,.slice la ln lc]] w fun e w'=>e=.returned (.agg #[.int .i64 0,.bool false,.bool false,.bool false,.bool false,.bool false,.bool false,.bool hd])/\Below w.heap.size w w':=IY hd s la ln lc w
end
section
open Mc
def fb (its:List Wd.It)(f:Fr):List UInt8:=if f.there=true then ah its f.item else []
def fl (its:List Wd.It)(lg:Nat->Nat)(f:Fr):Option Addr:=if f.there=true then some ⟨lg f.item,0,none⟩ else none
def fpV (its:List Wd.It)(lg:Nat->Nat)(f:Fr)(o:Bool):List Value :=
 [.bool f.there,.int .i64 (f.item:Int),.bool (f.there&&isH its f.item),.string (Wd.mkS (fb its f)),.slice (fl its lg f) (fb its f).length (fb its f).length,.int .i64 (f.pos:Int),.bool (f.held.testBit 0),.bool (f.held.testBit 1),.bool (f.held.testBit 2),.bool (f.held.testBit 3),.bool (f.held.testBit 4),.bool (f.held.testBit 5),.bool o]
theorem vV (its:List Wd.It)(lg:Nat->Nat)(f:Fr)(o:Bool):(fpV its lg f o).toArray.all (·.oneCell')=true:=by simp[fpV,Value.oneCell']
theorem Tryz.iFrameP:(Tryz.prog.info? 93).map (·.size)=some 13:=by kernel_rfl
theorem Tryz.uFrameP:∃d,Tryz.prog.underlying 93=some d/\d.isRow=true:=⟨_,Tryz.underlying93,rfl⟩
theorem Ql (w:World)(b o:Nat)(T H:List Value)(hd:Bool)(hT:w.rangeAt b o T)(hH:w.rangeAt b (o+13) H)(lT:T.length=13)(lH:H.length=13)(oT:T.toArray.all (·.oneCell')=true)(oH:H.toArray.all (·.oneCell')=true)(h0:w.cell? ⟨b,o+13,none⟩=some (.bool hd)) :
  Calls Tryz.prog 136 #[.pointer (some ⟨b,o,none⟩)] w fun e w'=>e=.returned (.agg (if hd=true then H else T).toArray)/\Below w.heap.size w w':=by
 have RT:=hide (fun o=>World.rangeAt_alloc hT o)
 have RH:=hide (fun o=>World.rangeAt_alloc hH o)
 have r0:∀ob,(w.alloc ob).cell? ⟨b,o+13,none⟩=some (.bool hd):=fun ob=>by
  have:=World.rangeAt_alloc (w:=w) (b:=b) (o:=o+13) (cs:=[.bool hd]) (by intro j v hj;match j,hj with|0,hj=>simp at hj;subst hj;exact h0) ob
  exact this 0 _ rfl
 obtain ⟨ud,hu,hdr⟩:=Tryz.uFrameP
 have HU:=hide hu
 have HD:=hide hdr
 have LT:=hide (show (Tryz.prog.info? 93).map (·.size)=some T.length by rw[lT];exact Tryz.iFrameP)
 have LH:=hide (show (Tryz.prog.info? 93).map (·.size)=some H.length by rw[lH];exact Tryz.iFrameP)
 have LT2:=hide (show (Tryz.prog.info? 93).map (·.size)=some T.toArray.size by simp only[List.size_toArray,lT];exact Tryz.iFrameP)
 have LH2:=hide (show (Tryz.prog.info? 93).map (·.size)=some H.toArray.size by simp only[List.size_toArray,lH];exact Tryz.iFrameP)
 have OT:=hide oT
 have OH:=hide oH
 have ET:=hide (show 13=T.length from lT.symm)
 have EH:=hide (show 13=H.length from lH.symm)
 clear hT hH lT lH oT oH hu hdr h0
 cases hd
 ·simp only[Bool.false_eq_true,if_false]
  go_enter Tryz.func136,Tryz.ntmps136
  go_wp2_with (first|(refine wpList_load_mid rfl _ _ rfl _ _ rfl _ ud (RT.out _) HU.out HD.out LT.out ?_)|(refine wpList_store_row rfl 93 _ _ rfl _ _ rfl rfl 93 _ (heap_alloc_last _ _) LT2.out ET.out OT.out ?_;rw[World.setRow_alloc_new]))
  exact bodyPost_ret (v:=.agg T.toArray) (results_cell_row Tryz.results136 _ _ w.heap.size 93 _ (0,0) _ rfl (heap_alloc_last _ _) Tryz.underlying93 rfl LT2.out) rfl ⟨rfl,(Below.refl _ _).alloc (Nat.le_refl _) _⟩
 ·simp only[if_true]
  go_enter Tryz.func136,Tryz.ntmps136
  go_wp2_with (first|(refine wpList_load_mid rfl _ _ rfl _ _ rfl _ ud (RH.out _) HU.out HD.out LH.out ?_)|(refine wpList_store_row rfl 93 _ _ rfl _ _ rfl rfl 93 _ (heap_alloc_last _ _) LH2.out EH.out OH.out ?_;rw[World.setRow_alloc_new]))
  exact bodyPost_ret (v:=.agg H.toArray) (results_cell_row Tryz.results136 _ _ w.heap.size 93 _ (0,0) _ rfl (heap_alloc_last _ _) Tryz.underlying93 rfl LH2.out) rfl ⟨rfl,(Below.refl _ _).alloc (Nat.le_refl _) _⟩
theorem KH (w:World)(b o:Nat)(F:List Value)(hd:Bool)(hth:w.there b o 26)(lF:F.length=13)(oF:F.toArray.all (·.oneCell')=true)(h0:w.cell? ⟨b,o+13,none⟩=some (.bool hd)) :
  Calls Tryz.prog 139 #[.pointer (some ⟨b,o,none⟩),.agg F.toArray] w fun e w'=>e=.returned (.tuple #[])/\w'=(w.alloc (.cells F.toArray 93)).setCells b (if hd=true then o+13 else o) F:=by
 have r0:∀ob,(w.alloc ob).cell? ⟨b,o+13,none⟩=some (.bool hd):=fun ob=>by
  have:=World.rangeAt_alloc (w:=w) (b:=b) (o:=o+13) (cs:=[.bool hd]) (by intro j v hj;match j,hj with|0,hj=>simp at hj;subst hj;exact h0) ob
  exact this 0 _ rfl
 have TT:Hid (∀ob,(w.alloc ob).there b o F.toArray.size):=hide (fun ob=>World.there_alloc (fun j hj=>hth j (by simp[lF] at hj;omega)) ob)
 have TH:Hid (∀ob,(w.alloc ob).there b (o+13) F.toArray.size):=hide (fun ob=>World.there_alloc (fun j hj=>by have:=hth (13+j) (by simp[lF] at hj;omega);rw[<-Nat.add_assoc] at this;exact this) ob)
 have LT2:=hide (show (Tryz.prog.info? 93).map (·.size)=some F.toArray.size by simp only[List.size_toArray,lF];exact Tryz.iFrameP)
 have OF:=hide oF
 clear hth lF oF h0
 cases hd
 ·simp only[Bool.false_eq_true,if_false]
  go_enter Tryz.func139,Tryz.ntmps139
  go_wp2_with (first|(refine wpList_load_row rfl 93 _ rfl _ rfl 93 F.toArray (0,0) _ (heap_alloc_last _ _) Tryz.underlying93 rfl LT2.out ?_)|(refine wpList_store_mid rfl 93 _ _ rfl _ _ _ rfl rfl (TT.out _) LT2.out OF.out ?_))
  go_end0
  exact ⟨rfl,rfl⟩
 ·simp only[if_true]
  go_enter Tryz.func139,Tryz.ntmps139
  go_wp2_with (first|(refine wpList_load_row rfl 93 _ rfl _ rfl 93 F.toArray (0,0) _ (heap_alloc_last _ _) Tryz.underlying93 rfl LT2.out ?_)|(refine wpList_store_mid rfl 93 _ _ rfl _ _ _ rfl rfl (TH.out _) LT2.out OF.out ?_))
  go_end0
  exact ⟨rfl,rfl⟩
end
section
open Mc
def fpC (its:List Wd.It)(lg:Nat->Nat)(f:Fr)(o:Bool)(j:Nat):Value:=((fpV its lg f o)[j]?).getD undef
def pcF (its:List Wd.It)(lg:Nat->Nat)(S:Ma)(c j:Nat):Value:=if j<13 then fpC its lg (S.cp c).t (S.cp c).off j else fpC its lg (S.cp c).h (S.cp c).h.there (j-13)
def pmF (ai:Option Addr)(ci:Nat)(its:List Wd.It)(lg:Nat->Nat)(S:Ma)(i:Nat):Value:=if i=0 then .slice ai its.length ci else pcF its lg S ((i-1) / 26) ((i-1)%26)
theorem Tf (ai:Option Addr)(ci:Nat)(its:List Wd.It)(lg:Nat->Nat)(S:Ma)(c j:Nat)(hj:j<26):pmF ai ci its lg S (1+c*26+j)=pcF its lg S c j:=by
 unfold pmF
 rw[if_neg (by omega),show (1+c*26+j-1) / 26=c by omega,show (1+c*26+j-1)%26=j by omega]
def piF (its:List Wd.It)(lg:Nat->Nat)(S:Ma)(i:Nat):Value :=
 if i%6=0 then .bool (isH its (i / 6))
 else if i%6=1 then .bool (isH its (i / 6))
 else if i%6=2 then .string (Wd.mkS (ah its (i / 6)))
 else if i%6=3 then .slice (some ⟨lg (i / 6),0,none⟩) (ah its (i / 6)).length (ah its (i / 6)).length
 else if i%6=4 then .bool (S.rd (i / 6))
 else .int .i64 (S.pl (i / 6):Int)
def ldF (its:List Wd.It)(k:Nat):Nat->Value:=fun i=>.int .i64 ((leads (ah its k) i:Nat):Int)
structure PM (w:World)(b:Nat)(ai:Option Addr)(ci:Nat)(lg:Nat->Nat)(its:List Wd.It)(S:Ma):Prop where
 root:Blk w b 79 (pmF ai ci its lg S)
 items:0<its.length->∃g,ai=some ⟨g,0,none⟩/\Blk w g (its.length*6) (piF its lg S)/\g≠b
 leads:∀i,i<its.length->Blk w (lg i) (ah its i).length (ldF its i)/\lg i≠b/\ai≠some ⟨lg i,0,none⟩
 caps:its.length<=ci/\ci<=maxLen/\its.length<=8
 ab:ai≠some ⟨b,0,none⟩
structure KP (b:Nat)(ai:Option Addr)(w w':World):Prop where
 below:Below 0 w w'
 same:∀k,k<w.heap.size->k≠b->ai≠some ⟨k,0,none⟩->w'.heap[k]?=w.heap[k]?
theorem KP.of {b:Nat}{ai:Option Addr}{w w':World}(h:Below w.heap.size w w'):KP b ai w w':=⟨h.mono (Nat.zero_le _),fun k hk _ _=>h.block k hk⟩
theorem KP.refl (b:Nat)(ai:Option Addr)(w:World):KP b ai w w:=KP.of (Below.refl _ _)
theorem KP.trans {b:Nat}{ai:Option Addr}{x y z:World}(h1:KP b ai x y)(h2:KP b ai y z):KP b ai x z :=
 ⟨h1.below.trans h2.below,fun k hk e1 e2=>(h2.same k (Nat.lt_of_lt_of_le hk h1.below.size) e1 e2).trans (h1.same k hk e1 e2)⟩
theorem KP.drew {b:Nat}{ai:Option Addr}{x w:World}(h:KP b ai x w):KP b ai x w.drew:=h.trans (KP.of ((Below.refl _ _).drew))
theorem KP.alloc {b:Nat}{ai:Option Addr}{x w:World}(h:KP b ai x w)(o:Obj):KP b ai x (w.alloc o):=h.trans (KP.of (aD _ o))
theorem KP.set {b:Nat}{ai:Option Addr}{x w:World}(h:KP b ai x w)(o:Nat)(v:Value):KP b ai x (w.setCell ⟨b,o,none⟩ v) :=
 h.trans ⟨(Below.refl _ _).setCell (p:=⟨b,o,none⟩) (Nat.zero_le _) v,fun k hk e1 e2=>heap_setCell_other w ⟨b,o,none⟩ k v e1⟩
theorem KP.sets {b:Nat}{ai:Option Addr}{x w:World}(h:KP b ai x w)(o:Nat)(vs:List Value):KP b ai x (w.setCells b o vs) :=
 h.trans ⟨Below.setCells b (Nat.zero_le _) vs o w (Below.refl _ _),fun k hk e1 e2=>heap_setCells_other b vs o w k e1⟩
theorem KP.sO {b g:Nat}{ai:Option Addr}{x w:World}(h:KP b ai x w)(hg:ai=some ⟨g,0,none⟩)(o:Nat)(v:Value):KP b ai x (w.setCell ⟨g,o,none⟩ v) :=
 h.trans ⟨(Below.refl _ _).setCell (p:=⟨g,o,none⟩) (Nat.zero_le _) v,fun k hk e1 e2=>heap_setCell_other w ⟨g,o,none⟩ k v (by intro e;have e':k=g:=e;subst e';exact e2 hg)⟩
theorem KP.Fq {b B:Nat}{ai:Option Addr}{w w':World}(h:KP b ai w w')(hB:B<=w.heap.size)(hb:B<=b)(ha:∀g,ai=some ⟨g,0,none⟩->B<=g):Below B w w' :=
 ⟨h.below.os,h.below.tape,h.below.output,h.below.size,fun k hk=>h.same k (by omega) (by omega) (fun e=>by have:=ha k e;omega)⟩
theorem PM.below {w w':World}{b:Nat}{ai:Option Addr}{ci:Nat}{lg:Nat->Nat}{its:List Wd.It}{S:Ma}(h:PM w b ai ci lg its S)(hb:Below w.heap.size w w'):PM w' b ai ci lg its S :=
 ⟨h.root.below hb,fun hl=>(h.items hl).imp fun g hg=>⟨hg.1,hg.2.1.below hb,hg.2.2⟩,fun i hi=>⟨(h.leads i hi).1.below hb,(h.leads i hi).2⟩,h.caps,h.ab⟩
theorem PM.alloc {w:World}{b:Nat}{ai:Option Addr}{ci:Nat}{lg:Nat->Nat}{its:List Wd.It}{S:Ma}(h:PM w b ai ci lg its S)(o:Obj):PM (w.alloc o) b ai ci lg its S:=h.below (aD _ o)
theorem PM.upd {w w':World}{b:Nat}{ai:Option Addr}{ci:Nat}{lg:Nat->Nat}{its:List Wd.It}{S S':Ma}(h:PM w b ai ci lg its S)(hk:KP b ai w w')(hr:Blk w' b 79 (pmF ai ci its lg S'))(hi:∀g,0<its.length->ai=some ⟨g,0,none⟩->Blk w' g (its.length*6) (piF its lg S')):PM w' b ai ci lg its S' :=
 ⟨hr,fun hl=>(h.items hl).imp fun g hg=>⟨hg.1,hi g hl hg.1,hg.2.2⟩,fun i hl=>⟨(h.leads i hl).1.same (hk.same _ (h.leads i hl).1.lt (h.leads i hl).2.1 (h.leads i hl).2.2),(h.leads i hl).2⟩,h.caps,h.ab⟩
theorem PM.aC {w:World}{b:Nat}{ai:Option Addr}{ci:Nat}{lg:Nat->Nat}{its:List Wd.It}{S:Ma}(h:PM w b ai ci lg its S)(c j:Nat)(hc:c<3)(hj:j<26):w.cell? ⟨b,1+c*26+j,none⟩=some (pcF its lg S c j):=by
 rw[h.root.cell (1+c*26+j) (by omega),Tf _ _ _ _ _ _ _ hj]
theorem PM.slot {w:World}{b:Nat}{ai:Option Addr}{ci:Nat}{lg:Nat->Nat}{its:List Wd.It}{S:Ma}(h:PM w b ai ci lg its S):w.cell? ⟨b,0,none⟩=some (.slice ai its.length ci):=h.root.cell 0 (by omega)
theorem PM.item {w:World}{b:Nat}{ai:Option Addr}{ci:Nat}{lg:Nat->Nat}{its:List Wd.It}{S:Ma}(h:PM w b ai ci lg its S){i:Nat}(hi:i<its.length):∃g,ai=some ⟨g,0,none⟩/\Blk w g (its.length*6) (piF its lg S)/\g≠b:=h.items (by omega)
theorem nH (its:List Wd.It)(lg:Nat->Nat)(S:Ma)(i:Nat):piF its lg S (i*6)=.bool (isH its i)/\piF its lg S (i*6+1)=.bool (isH its i)/\piF its lg S (i*6+2)=.string (Wd.mkS (ah its i))/\piF its lg S (i*6+3)=.slice (some ⟨lg i,0,none⟩) (ah its i).length (ah its i).length/\piF its lg S (i*6+4)=.bool (S.rd i)/\piF its lg S (i*6+5)=.int .i64 (S.pl i:Int):=by
 unfold piF
 refine ⟨?_,?_,?_,?_,?_,?_⟩
 ·rw[if_pos (by omega),show i*6 / 6=i by omega]
 ·rw[if_neg (by omega),if_pos (by omega),show (i*6+1) / 6=i by omega]
 ·rw[if_neg (by omega),if_neg (by omega),if_pos (by omega),show (i*6+2) / 6=i by omega]
 ·rw[if_neg (by omega),if_neg (by omega),if_neg (by omega),if_pos (by omega),show (i*6+3) / 6=i by omega]
 ·rw[if_neg (by omega),if_neg (by omega),if_neg (by omega),if_neg (by omega),if_pos (by omega),show (i*6+4) / 6=i by omega]
 ·rw[if_neg (by omega),if_neg (by omega),if_neg (by omega),if_neg (by omega),if_neg (by omega),show (i*6+5) / 6=i by omega]
theorem Blk.aA {w:World}{g k n:Nat}{f:Nat->Value}(h:Blk w k n f)(hne:k≠g)(i:Nat)(v:Value):Blk (w.setCell ⟨g,i,none⟩ v) k n f:=h.same (heap_setCell_other _ _ _ _ hne)
theorem Blk.kK {w:World}{g k n:Nat}{f:Nat->Value}(h:Blk w k n f)(hne:k≠g)(o:Nat)(vs:List Value):Blk (w.setCells g o vs) k n f:=h.same (heap_setCells_other g vs o w k hne)
theorem PM.aQ {w:World}{b g:Nat}{ai:Option Addr}{ci:Nat}{lg:Nat->Nat}{its:List Wd.It}{S:Ma}(h:PM w b ai ci lg its S)(hg:ai=some ⟨g,0,none⟩)(i:Nat)(v:Bool):PM (w.setCell ⟨g,i*6+4,none⟩ (.bool v)) b ai ci lg its (aQ S i v):=by
 have hgb:g≠b:=fun e=>h.ab (by rw[hg,e])
 refine h.upd ((KP.refl b ai w).sO hg _ _) ?_ ?_
 ·exact (h.root.aA (Ne.symm hgb) _ _)
 ·intro g' hl hg'
  obtain ⟨g2,e1,e2,e3⟩:=h.items hl
  rw[hg] at hg' e1;cases hg';cases e1
  refine (e2.set _ _).congr fun j hj=>?_
  by_cases e:j=i*6+4
  ·subst e;rw[if_pos rfl,(nH its lg _ i).2.2.2.2.1];simp[Mc.aQ]
  ·rw[if_neg e]
   unfold piF
   by_cases e4:j%6=4
   ·have:j / 6≠i:=by omega
    simp[e4,Mc.aQ,this]
   ·simp only[e4,if_false];rfl
theorem PM.bA {w:World}{b g:Nat}{ai:Option Addr}{ci:Nat}{lg:Nat->Nat}{its:List Wd.It}{S:Ma}(h:PM w b ai ci lg its S)(hg:ai=some ⟨g,0,none⟩)(i p:Nat):PM (w.setCell ⟨g,i*6+5,none⟩ (.int .i64 (p:Int))) b ai ci lg its (bA S i p):=by
 have hgb:g≠b:=fun e=>h.ab (by rw[hg,e])
 refine h.upd ((KP.refl b ai w).sO hg _ _) ?_ ?_
 ·exact (h.root.aA (Ne.symm hgb) _ _)
 ·intro g' hl hg'
  obtain ⟨g2,e1,e2,e3⟩:=h.items hl
  rw[hg] at hg' e1;cases hg';cases e1
  refine (e2.set _ _).congr fun j hj=>?_
  by_cases e:j=i*6+5
  ·subst e;rw[if_pos rfl,(nH its lg _ i).2.2.2.2.2];simp[Mc.bA]
  ·rw[if_neg e]
   unfold piF
   by_cases e4:j%6=5
   ·have:j / 6≠i:=by omega
    simp[e4,Mc.bA,this]
   ·have h6:j%6<6:=Nat.mod_lt _ (by omega)
    by_cases c0:j%6=0
    ·simp only[c0,if_true]
    by_cases c1:j%6=1
    ·simp only[c1,if_true,if_false]
    by_cases c2:j%6=2
    ·simp only[c2,if_true,if_false]
    by_cases c3:j%6=3
    ·simp only[c3,if_true,if_false]
    have c5:j%6=4:=by omega
    simp only[c5,if_true,if_false];rfl
theorem BG (w:World)(b:Nat)(ai:Option Addr)(ci:Nat)(lg:Nat->Nat)(its:List Wd.It)(S:Ma)(n p:Nat)(h:PM w b ai ci lg its S)(hn:n<its.length)(hp:p<=20000) :
  Calls Tryz.prog 138 #[.pointer (some ⟨b,0,none⟩),.int .i64 n,.int .i64 p] w fun e w'=>e=.returned (.tuple #[])/\PM w' b ai ci lg its (bA (aQ S n true) n p)/\KP b ai w w':=by
 have CA:=h.caps
 unfold maxLen at CA
 obtain ⟨g,hg,hbk,hgb⟩:=h.item hn
 have r0:=h.slot
 have q4:w.cell? ⟨g,n*6+4,none⟩=some (.bool (S.rd n)):=by rw[hbk.cell _ (by omega),(nH its lg S n).2.2.2.2.1]
 have f4:w.frozen? ⟨g,n*6+4,none⟩=false:=hbk.frozen _
 have q5:w.cell? ⟨g,n*6+5,none⟩=some (.int .i64 (S.pl n:Int)):=by rw[hbk.cell _ (by omega),(nH its lg S n).2.2.2.2.2]
 have f5:w.frozen? ⟨g,n*6+5,none⟩=false:=hbk.frozen _
 have HP1:=hide (h.aQ hg n true)
 have HK1:=hide ((KP.refl b ai w).sO hg (n*6+4) (.bool true))
 rw[hg] at r0
 have HG:=hide hg
 clear hg h hbk
 go_enter Tryz.func138,Tryz.ntmps138
 go_wp2
 go_end0
 exact ⟨rfl,HP1.out.bA HG.out n p,HK1.out.sO HG.out _ _⟩
def gZ (S:Ma)(l:Int):Option Nat:=if 0<=l then holder S 3 l.toNat else none
def nK (S:Ma)(l:Int)(k:Nat):Option Nat:=if 0<=l then dY S l.toNat k (3-k) else none
theorem Oj (S:Ma)(l:Int)(k:Nat)(h:¬k<3):nK S l k=none:=by
 unfold nK
 rw[show 3-k=0 by omega]
 split<;>rfl
theorem uT (x:Nat)(l:Int)(hx:x<64)(h0:0<=l):hasB x l=holds x l.toNat:=by
 unfold hasB
 by_cases h6:l<6
 ·simp[h0,h6]
 ·have:x.testBit l.toNat=false:=Nat.testBit_lt_two_pow (Nat.lt_of_lt_of_le hx (Nat.pow_le_pow_right (n:=2) (i:=6) (by omega) (by omega)))
  simp[h0,h6,holds,this]
theorem ER (x:Nat)(l:Int)(h:¬0<=l):hasB x l=false:=by simp[hasB,h]
theorem Ol {S:Ma}{l:Int}{k:Nat}(hk:k<3)(ht:(S.cp k).t.held<64)(hh:(S.cp k).h.held<64)(h:hasB (S.cp k).t.held l=true\/hasB (S.cp k).h.held l=true):nK S l k=some k:=by
 have h0:0<=l:=by
  by_cases e:0<=l
  ·exact e
  ·rw[ER _ _ e,ER _ _ e] at h;simp at h
 rw[uT _ _ ht h0,uT _ _ hh h0] at h
 unfold nK
 rw[if_pos h0,show 3-k=(2-k)+1 by omega,dY,if_pos (by unfold aY;simpa using h)]
theorem Qm {S:Ma}{l:Int}{k:Nat}(hk:k<3)(ht:(S.cp k).t.held<64)(hh:(S.cp k).h.held<64)(h1:hasB (S.cp k).t.held l=false)(h2:hasB (S.cp k).h.held l=false):nK S l k=nK S l (k+1):=by
 unfold nK
 by_cases h0:0<=l
 ·rw[uT _ _ ht h0] at h1
  rw[uT _ _ hh h0] at h2
  rw[if_pos h0,if_pos h0,show 3-k=(2-k)+1 by omega,dY,if_neg (by unfold aY;simp[h1,h2]),show 2-k=3-(k+1) by omega]
 ·rw[if_neg h0,if_neg h0]
theorem Om {w:World}{b:Nat}{ai:Option Addr}{ci:Nat}{lg:Nat->Nat}{its:List Wd.It}{S:Ma}(h:PM w b ai ci lg its S)(c:Nat)(hc:c<3):w.rangeAt b (1+c*26+5+1) [.bool ((S.cp c).t.held.testBit 0),.bool ((S.cp c).t.held.testBit 1),.bool ((S.cp c).t.held.testBit 2),.bool ((S.cp c).t.held.testBit 3),.bool ((S.cp c).t.held.testBit 4),.bool ((S.cp c).t.held.testBit 5)]/\w.rangeAt b (1+c*26+13+5+1) [.bool ((S.cp c).h.held.testBit 0),.bool ((S.cp c).h.held.testBit 1),.bool ((S.cp c).h.held.testBit 2),.bool ((S.cp c).h.held.testBit 3),.bool ((S.cp c).h.held.testBit 4),.bool ((S.cp c).h.held.testBit 5)]:=by
 constructor
 ·intro j v hj
  have hl:j<6:=(List.getElem?_eq_some_iff.1 hj).1
  have:=h.aC c (6+j) hc (by omega)
  rw[show 1+c*26+5+1+j=1+c*26+(6+j) by omega,this,<-hj]
  rcases j with _|_|_|_|_|_|j<;>first|rfl|omega
 ·intro j v hj
  have hl:j<6:=(List.getElem?_eq_some_iff.1 hj).1
  have:=h.aC c (19+j) hc (by omega)
  rw[show 1+c*26+13+5+1+j=1+c*26+(19+j) by omega,this,<-hj]
  rcases j with _|_|_|_|_|_|j<;>first|rfl|omega
theorem CJ (w:World)(b:Nat)(ai:Option Addr)(ci:Nat)(lg:Nat->Nat)(its:List Wd.It)(S:Ma)(l:Int)(h:PM w b ai ci lg its S)(hi:Inv its 3 S)(h0:-1<=l)(h1:l<=100) :
  Calls Tryz.prog 150 #[.pointer (some ⟨b,0,none⟩),.int .i64 l] w fun e w'=>e=.returned (.int .i64 (toI (gZ S l)))/\Below w.heap.size w w':=by
 have HM:=hide h
 have HI:=hide hi
 clear h hi
 obtain ⟨ud,hu,hdd⟩:=Tryz.uHeldR
 have HU:=hide hu
 have HD:=hide hdd
 clear hu hdd
 go_enter Tryz.func150,Tryz.ntmps150
 go_wp2
 go_loopw [5] (fun a wr=>∃k:Nat,k<=3/\a=.int .i64 k/\gZ S l=nK S l k/\Below w.heap.size w wr) (fun a _=>3-(intOf a).toNat)
 case atStart=>exact ⟨0,by omega,rfl,rfl,Below.refl _ _⟩
 case round =>
  obtain ⟨k,hk,rfl,hp,hbe⟩:=hrel
  have HP:=hide hp
  have HB0:=hide hbe
  have HM0:=hide (HM.out.below hbe)
  clear hp hbe
  by_cases hlt:k<3
  ·have ht:=(HI.out.t k hlt).held
   have hh:=(HI.out.h k hlt).held
   have A1:=hide (fun W=>vT (S.cp k).t.held l W (by omega) (by omega))
   have A2:=hide (fun W=>vT (S.cp k).h.held l W (by omega) (by omega))
   have Y:=hide (fun h=>Ol (l:=l) hlt ht hh h)
   have N:=hide (fun h1 h2=>Qm (l:=l) hlt ht hh h1 h2)
   have R:=hide (fun W (hW:PM W b ai ci lg its S)=>Om hW k hlt)
   clear ht hh
   generalize hasB (S.cp k).t.held l=x1 at *
   generalize hasB (S.cp k).h.held l=x2 at *
   generalize (S.cp k).t.held.testBit 0=t0 at *
   generalize (S.cp k).t.held.testBit 1=t1 at *
   generalize (S.cp k).t.held.testBit 2=t2 at *
   generalize (S.cp k).t.held.testBit 3=t3 at *
   generalize (S.cp k).t.held.testBit 4=t4 at *
   generalize (S.cp k).t.held.testBit 5=t5 at *
   generalize (S.cp k).h.held.testBit 0=u0 at *
   generalize (S.cp k).h.held.testBit 1=u1 at *
   generalize (S.cp k).h.held.testBit 2=u2 at *
   generalize (S.cp k).h.held.testBit 3=u3 at *
   generalize (S.cp k).h.held.testBit 4=u4 at *
   generalize (S.cp k).h.held.testBit 5=u5 at *
   cases x1<;>cases x2
   all_goals (
    go_wp2_with (first|(refine wpList_load_mid rfl 89 _ rfl _ _ rfl [.bool u0,.bool u1,.bool u2,.bool u3,.bool u4,.bool u5] ud ?_ HU.out HD.out Tryz.iHeld ?_;(exact (R.out _ HM1.out).2))|(have:=HM1.out;go_at_call 130;refine (A2.out _).mono ?_;rintro e w2 ⟨rfl,hb2⟩;have HM2:=hide (HM1.out.below hb2);have HB2:=hide (ak HB1.out hb2);clear hb2)|(refine wpList_load_mid rfl 89 _ rfl _ _ rfl [.bool t0,.bool t1,.bool t2,.bool t3,.bool t4,.bool t5] ud ?_ HU.out HD.out Tryz.iHeld ?_;(exact (R.out _ HM0.out).1))|(go_at_call 130;refine (A1.out _).mono ?_;rintro e w1 ⟨rfl,hb1⟩;have HM1:=hide (HM0.out.below hb1);have HB1:=hide (ak HB0.out hb1);clear hb1))
    )
   ·go_round
    case rel=>exact ⟨k+1,by omega,by go_num,HP.out.trans (N.out (by first|rfl|trivial) (by first|rfl|trivial)),HB2.out⟩
    case measure=>simp[intOf];omega
   all_goals (
    go_ret
    exact ⟨aO (by rw[HP.out,Y.out (by simp)];rfl),HB2.out⟩)
  ·go_wp2
   go_ret
   exact ⟨aO (by rw[HP.out,Oj S l k hlt];rfl),HB0.out⟩
end
end Go.Proofs.YtecmfdkhcffpmaaGreat
