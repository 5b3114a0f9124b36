/- StD, PureA2, StI. -/
import Derived.Test.YtecmfdkhcffpmaaGreatB35
import Derived.Test.YtecmfdkhcffpmaaGreatB33
import Derived.Test.YtecmfdkhcffpmaaGreatB36
import Derived.Test.YtecmfdkhcffpmaaGreatB37
namespace Go.Proofs.YtecmfdkhcffpmaaGreat
open Go.RowKit
set_option linter.unusedVariables false
set_option linter.unusedSimpArgs false
set_option linter.unusedSectionVars false
set_option maxHeartbeats 8000000
set_option maxRecDepth 100000
section
open Mc
theorem DC (hd:Bool)(s:ByteArray)(la:Option Addr)(ln lc p h:Nat)(off:Bool)(w:World)(hs:s.size<=10000)(hp:p<=20000)(hh:h<64)(hok:bG s.data.toList) :
  Calls Tryz.prog 78 #[.agg #[.bool hd,.string s,.slice la ln lc],.agg (stA p h off)] w fun e w'=>e=.returned (.int .i64 (jk (aB hd s.data.toList p h off)))/\Below w.heap.size w w':=by
 have AF:Hid (∀W,Calls Tryz.prog 103 #[.agg #[.bool hd,.string s,.slice la ln lc],.agg (stA p h off)] W fun e w'=>e=.returned (.int .u8 (aB hd s.data.toList p h off))/\Below W.heap.size W w'):=hide (fun W=>yL hd s la ln lc p h off W hs hp hh hok)
 have hv:=mZ hd s.data.toList p h off
 have HR:=hide (Row.two w #[.bool hd,.string s,.slice la ln lc] (stA p h off) 88 91)
 have HB:=hide (og w (.cells #[.bool hd,.string s,.slice la ln lc] 88) (.cells (stA p h off) 91))
 clear hok
 generalize aB hd s.data.toList p h off=F at *
 rcases hv with rfl|rfl|rfl|rfl|rfl|rfl
 all_goals (
  go_enter Tryz.func78,Tryz.ntmps78
  go_wp2_with (first|(refine wpList_load_row rfl 91 _ rfl _ rfl 91 (stA p h off) (0,0) _ ?_ Tryz.underlying91 rfl (Tryz.iStA _ _ _) ?_;(exact HR.out.2.raw))|(go_at_call 103;refine (AF.out _).mono ?_;rintro e w1 ⟨rfl,hb1⟩))
  go_ret
  exact ⟨rfl,ak HB.out hb1⟩)
theorem Tryz.iKnown:(Tryz.prog.info? 127).map (·.size)=some 5:=by kernel_rfl
theorem CY (hd:Bool)(s:ByteArray)(w:World)(hs:s.size<=300)(hg:GB s.data.toList) :
  Calls Tryz.prog 77 #[.agg #[.bool hd,.string s]] w fun e w'=>∃v L g,e=.returned (.agg #[.bool hd,.bool hd,.string s,.slice (some ⟨g,0,none⟩) s.size s.size,v])/\w'.ownsRow w.heap.size 130 10 v L.length (iA L)/\iP hd s.data.toList L/\Below w.heap.size w w':=by
 have AO:=hide (fun W=>FT hd s W (by omega))
 have AS:=hide (fun W g hL=>JD hd s g W hs hg hL)
 clear hg
 have HR:=hide (Row.two w #[.bool hd,.string s] #[.bool false,.bool false,.string ⟨#[]⟩,.slice none 0 0,.slice none 0 0] 37 127)
 have HB:=hide (og w (.cells #[.bool hd,.string s] 37) (.cells #[.bool false,.bool false,.string ⟨#[]⟩,.slice none 0 0,.slice none 0 0] 127))
 go_enter Tryz.func77,Tryz.ntmps77
 go_wp2_with (first|(refine wpList_store_row rfl 88 _ _ rfl w1.heap.size #[.bool hd,.string s,.slice (some ⟨g,0,none⟩) s.size s.size] rfl rfl 88 #[.bool false,.string ⟨#[]⟩,.slice none 0 0] ?_ Tryz.iCode rfl (by simp[Value.oneCell']) ?_;(exact (Row.new w1 #[.bool false,.string ⟨#[]⟩,.slice none 0 0] 88).raw);rw[World.setRow_alloc_new];have HC2:=hide (Row.new w1 #[.bool hd,.string s,.slice (some ⟨g,0,none⟩) s.size s.size] 88);have HI2:=hide (HI1.out.alloc (.cells #[.bool hd,.string s,.slice (some ⟨g,0,none⟩) s.size s.size] 88));have HK2:=hide (HK1.out.alloc (.cells #[.bool hd,.string s,.slice (some ⟨g,0,none⟩) s.size s.size] 88));have HB2:=hide (aL HB1.out (.cells #[.bool hd,.string s,.slice (some ⟨g,0,none⟩) s.size s.size] 88));have HL2:=hide (HL1.out.alloc (.cells #[.bool hd,.string s,.slice (some ⟨g,0,none⟩) s.size s.size] 88));generalize w1.alloc (.cells #[.bool hd,.string s,.slice (some ⟨g,0,none⟩) s.size s.size] 88)=w2 at *;skip)|(go_at_call 89;refine (AO.out _).mono ?_;rintro e w1 ⟨g,rfl,hg,hblk,hb1⟩;have HI1:=hide (HR.out.1.below hb1);have HK1:=hide (HR.out.2.below hb1);have HB1:=hide (ak HB.out hb1);have HL1:=hide hblk;have hz1:w.heap.size+1<w1.heap.size:=HK1.out.lt;clear hblk hb1))
 have yi:w2.cell? ⟨w.heap.size,0,none⟩=some (.bool hd):=HI2.out.cell 0 rfl
 have yc0:w2.cell? ⟨w1.heap.size,0,none⟩=some (.bool hd):=HC2.out.cell 0 rfl
 have yc1:w2.cell? ⟨w1.heap.size,1,none⟩=some (.string s):=HC2.out.cell 1 rfl
 have yc2:w2.cell? ⟨w1.heap.size,2,none⟩=some (.slice (some ⟨g,0,none⟩) s.size s.size):=HC2.out.cell 2 rfl
 have hne1:w.heap.size≠w.heap.size+1:=by omega
 have hne2:w1.heap.size≠w.heap.size+1:=by omega
 have KEEP:Hid (∀W' w3 va,W'=(((((w3.setCell ⟨w.heap.size+1,0,none⟩ (.bool hd)).setCell ⟨w.heap.size+1,1,none⟩ (.bool hd)).setCell ⟨w.heap.size+1,2,none⟩ (.string s)).setCell ⟨w.heap.size+1,3,none⟩ (.slice (some ⟨g,0,none⟩) s.size s.size)).setCell ⟨w.heap.size+1,4,none⟩ va)->Row w3 w.heap.size #[.bool hd,.string s] 37->Row w3 w1.heap.size #[.bool hd,.string s,.slice (some ⟨g,0,none⟩) s.size s.size] 88->W'.cell? ⟨w.heap.size,0,none⟩=some (.bool hd)/\W'.cell? ⟨w1.heap.size,0,none⟩=some (.bool hd)/\W'.cell? ⟨w1.heap.size,1,none⟩=some (.string s)/\W'.cell? ⟨w1.heap.size,2,none⟩=some (.slice (some ⟨g,0,none⟩) s.size s.size)):=by
  apply hide
  rintro _ w3 va rfl h1 h2
  exact ⟨by rw[ay hne1,ay hne1,ay hne1,ay hne1,ay hne1];exact h1.cell 0 rfl,by rw[ay hne2,ay hne2,ay hne2,ay hne2,ay hne2];exact h2.cell 0 rfl,by rw[ay hne2,ay hne2,ay hne2,ay hne2,ay hne2];exact h2.cell 1 rfl,by rw[ay hne2,ay hne2,ay hne2,ay hne2,ay hne2];exact h2.cell 2 rfl⟩
 go_region_held3 (fun W'=>W'.cell? ⟨w.heap.size,0,none⟩=some (.bool hd)/\W'.cell? ⟨w1.heap.size,0,none⟩=some (.bool hd)/\W'.cell? ⟨w1.heap.size,1,none⟩=some (.string s)/\W'.cell? ⟨w1.heap.size,2,none⟩=some (.slice (some ⟨g,0,none⟩) s.size s.size)) (first|exact KEEP.out _ w3 _ (by with_reducible rfl) HI3.out HC3.out|go_keep) (first|(go_at_call 102;refine (AS.out _ g (HL2.out.below ((Below.refl _ _).drew))).mono ?_;rintro e w3 ⟨v,L,rfl,hown,hfin,hb3⟩;obtain ⟨ao,cc,hv⟩:=bq hown;subst hv;have wU:=ak ((Below.refl w2.heap.size w2).drew) hb3;have HI3:=hide (HI2.out.below wU);have HC3:=hide (HC2.out.below wU);have HK3:=hide (HK2.out.below wU);have HO3:=hide hown;have HF3:=hide hfin;have xi:w3.cell? ⟨w.heap.size,0,none⟩=some (.bool hd):=HI3.out.cell 0 rfl;have xc0:w3.cell? ⟨w1.heap.size,0,none⟩=some (.bool hd):=HC3.out.cell 0 rfl;have xc1:w3.cell? ⟨w1.heap.size,1,none⟩=some (.string s):=HC3.out.cell 1 rfl;have xc2:w3.cell? ⟨w1.heap.size,2,none⟩=some (.slice (some ⟨g,0,none⟩) s.size s.size):=HC3.out.cell 2 rfl;have k0:w3.cell? ⟨w.heap.size+1,0,none⟩=some (.bool false):=HK3.out.cell 0 rfl;have f0:=HK3.out.frozen 0;have k1:w3.cell? ⟨w.heap.size+1,1,none⟩=some (.bool false):=HK3.out.cell 1 rfl;have f1:=HK3.out.frozen 1;have k2:w3.cell? ⟨w.heap.size+1,2,none⟩=some (.string ⟨#[]⟩):=HK3.out.cell 2 rfl;have f2:=HK3.out.frozen 2;have k3:w3.cell? ⟨w.heap.size+1,3,none⟩=some (.slice none 0 0):=HK3.out.cell 3 rfl;have f3:=HK3.out.frozen 3;have k4:w3.cell? ⟨w.heap.size+1,4,none⟩=some (.slice none 0 0):=HK3.out.cell 4 rfl;have f4:=HK3.out.frozen 4;clear hown hfin hb3))
 all_goals (
  have HK4:Hid (Row (((((w3.setCell ⟨w.heap.size+1,0,none⟩ (.bool hd)).setCell ⟨w.heap.size+1,1,none⟩ (.bool hd)).setCell ⟨w.heap.size+1,2,none⟩ (.string s)).setCell ⟨w.heap.size+1,3,none⟩ (.slice (some ⟨g,0,none⟩) s.size s.size)).setCell ⟨w.heap.size+1,4,none⟩ (.slice ao L.length cc)) (w.heap.size+1) #[.bool hd,.bool hd,.string s,.slice (some ⟨g,0,none⟩) s.size s.size,.slice ao L.length cc] 127):=by
   apply hide
   have:=(((((HK3.out.set 0 (.bool hd)).set 1 (.bool hd)).set 2 (.string s)).set 3 (.slice (some ⟨g,0,none⟩) s.size s.size)).set 4 (.slice ao L.length cc))
   simpa using this
  have hbw:Below w.heap.size w w3:=HB2.out.trans (wU.mono HB2.out.size)
  have HB4:=hide (((((hbw.setCell (p:=⟨w.heap.size+1,0,none⟩) (show w.heap.size<=w.heap.size+1 by omega) (.bool hd)).setCell (p:=⟨w.heap.size+1,1,none⟩) (show w.heap.size<=w.heap.size+1 by omega) (.bool hd)).setCell (p:=⟨w.heap.size+1,2,none⟩) (show w.heap.size<=w.heap.size+1 by omega) (.string s)).setCell (p:=⟨w.heap.size+1,3,none⟩) (show w.heap.size<=w.heap.size+1 by omega) (.slice (some ⟨g,0,none⟩) s.size s.size)).setCell (p:=⟨w.heap.size+1,4,none⟩) (show w.heap.size<=w.heap.size+1 by omega) (.slice ao L.length cc))
  have hsz:w.heap.size+1<w2.heap.size:=HK2.out.lt
  have HO4:Hid ((((((w3.setCell ⟨w.heap.size+1,0,none⟩ (.bool hd)).setCell ⟨w.heap.size+1,1,none⟩ (.bool hd)).setCell ⟨w.heap.size+1,2,none⟩ (.string s)).setCell ⟨w.heap.size+1,3,none⟩ (.slice (some ⟨g,0,none⟩) s.size s.size)).setCell ⟨w.heap.size+1,4,none⟩ (.slice ao L.length cc)).ownsRow w.heap.size 130 10 (.slice ao L.length cc) L.length (iA L)):=by
   apply hide
   refine iH (fO HO3.out (fun j hj hl=>?_)) (show w.heap.size<=w2.heap.size+1 by omega)
   rw[heap_setCell_other _ _ _ _ (show j≠w.heap.size+1 by simp at hj;omega),heap_setCell_other _ _ _ _ (show j≠w.heap.size+1 by simp at hj;omega),heap_setCell_other _ _ _ _ (show j≠w.heap.size+1 by simp at hj;omega),heap_setCell_other _ _ _ _ (show j≠w.heap.size+1 by simp at hj;omega),heap_setCell_other _ _ _ _ (show j≠w.heap.size+1 by simp at hj;omega)]
  clear KEEP
  generalize (((((w3.setCell ⟨w.heap.size+1,0,none⟩ (.bool hd)).setCell ⟨w.heap.size+1,1,none⟩ (.bool hd)).setCell ⟨w.heap.size+1,2,none⟩ (.string s)).setCell ⟨w.heap.size+1,3,none⟩ (.slice (some ⟨g,0,none⟩) s.size s.size)).setCell ⟨w.heap.size+1,4,none⟩ (.slice ao L.length cc))=w4 at *
  go_wp2
  exact bodyPost_ret (v:=.agg #[.bool hd,.bool hd,.string s,.slice (some ⟨g,0,none⟩) s.size s.size,.slice ao L.length cc]) (results_cell_row Tryz.results77 _ _ (w.heap.size+1) 127 #[.bool hd,.bool hd,.string s,.slice (some ⟨g,0,none⟩) s.size s.size,.slice ao L.length cc] (0,0) _ rfl HK4.out.raw Tryz.underlying127 rfl Tryz.iKnown) rfl ⟨_,L,g,rfl,HO4.out,HF3.out,HB4.out⟩)
end
section
open Mc
def tkP (b:List UInt8)(p h:Nat):Nat:=if atB b p=43/\hasB h (aW b p)=false then 2 ^ (aW b p).toNat else 0
structure Ef where
 T:Tb
 op:Nat
 tk:Nat
def pq (hd off:Bool)(op h:Nat):Nat:=if hd=false/\off=false then op ||| h else op
def pu (hd:Bool)(tk t:Nat):Nat:=if hd=true then tk ||| t else tk
def su (hd:Bool)(b:List UInt8)(z:Ef)(r:Rc):Ef:=⟨cK z.T r.h (tkP b r.p r.h),pq hd r.off z.op r.h,pu hd z.tk (tkP b r.p r.h)⟩
structure Kp3 where
 hd:Bool
 b:List UInt8
 L:List Rc
def iK (z:Ef)(k:Kp3):Ef:=k.L.foldl (su k.hd k.b) z
def l7 (K:List Kp3):Ef:=K.foldl iK ⟨fun _ _=>false,0,0⟩
def jh (K:List Kp3):Tb:=cK (l7 K).T (l7 K).op (l7 K).tk
def mJ (b:List UInt8)(c:Nat)(z:Vi)(r:Rc):Vi :=
 if (atB b r.p=114\/atB b r.p=119)/\aW b r.p=(c:Int) then ⟨fun x=>if x=hn r.h then (z.wr x||decide (atB b r.p=119)) else z.wr x,fun x=>if x=hn r.h then true else z.ei x⟩ else z
def cZ (b:List UInt8)(c:Nat)(L:List Rc):Vi:=L.foldl (mJ b c) ⟨fun _=>false,fun _=>false⟩
def wo (c:Nat)(K:List Kp3)(k:Kp3):Bool:=(k.hd&&jH (cZ k.b c k.L) (cZ k.b c k.L))||K.any (fun o=>jH (cZ k.b c k.L) (cZ o.b c o.L))
def ja (c:Nat)(K:List Kp3):Nat->Bool
 | 0=>false
 | n+1=>ja c K n||(match K[n]? with|some k=>wo c (K.take n) k|none=>false)
def iN (c:Nat)(K:List Kp3):Bool:=ja c K K.length
theorem CZ {c:Nat}{K:List Kp3}{n:Nat}{k:Kp3}(h:K[n]?=some k):ja c K (n+1)=(ja c K n||wo c (K.take n) k):=by
 simp[ja,h]
theorem OL {c:Nat}{K:List Kp3}{n m:Nat}(h:ja c K n=true)(hm:n<=m):ja c K m=true:=by
 induction m with
 | zero=>rw[show n=0 by omega] at h;exact h
 | succ m ih =>
  by_cases e:n=m+1
  ·rw[<-e];exact h
  ·have:=ih (by omega)
   simp[ja,this]
def kdP (K:List Kp3)(k i p:Nat):Bool:=match K[i]? with|some x=>decide (kAt x.hd x.b x.L p=(k:Int))|none=>false
def jy (K:List Kp3)(i:Nat):Nat:=match K[i]? with|some x=>x.b.length+1|none=>0
def zh (K:List Kp3):List Rp:=bZ (kdP K) (jy K) K.length 5++dP (fwK (jh K) 6) 6++eF (fun c=>iN c K) 4
end
section
open Mc
theorem qp (h:Nat):jI h=bsA 6 (fun i=>h.testBit i):=rfl
theorem MQ (a b:Nat)(w:World):Calls Tryz.prog 108 #[.agg (jI a),.agg (jI b)] w fun e w'=>e=.returned (.agg (jI (a ||| b)))/\Below w.heap.size w w':=by
 rw[qp,qp,qp]
 have:=R6 (fun i=>a.testBit i) (fun i=>b.testBit i) w
 simpa only[Nat.testBit_or] using this
theorem OM (T:Tb)(a b:Nat)(w:World):Calls Tryz.prog 107 #[.agg (tbA T),.agg (jI a),.agg (jI b)] w fun e w'=>e=.returned (.agg (tbA (cK T a b)))/\Below w.heap.size w w':=by
 rw[qp,qp]
 exact TV T _ _ w
theorem OO:∀l,l<6->jI (2 ^ l)=#[.bool (if l=0 then true else false),.bool (if l=1 then true else false),.bool (if l=2 then true else false),.bool (if l=3 then true else false),.bool (if l=4 then true else false),.bool (if l=5 then true else false)]:=by
 intro l hl
 have hc:l=0\/l=1\/l=2\/l=3\/l=4\/l=5:=by omega
 rcases hc with rfl|rfl|rfl|rfl|rfl|rfl<;>rfl
theorem JE (l:Nat)(w:World)(hl:l<6):Calls Tryz.prog 132 #[.agg #[.bool false,.bool false,.bool false,.bool false,.bool false,.bool false],.int .i64 l] w fun e w'=>e=.returned (.agg (jI (2 ^ l)))/\Below w.heap.size w w':=by
 have AP:=hide (fun W=>xH false false false false false false true l W hl)
 rw[<-OO l hl] at AP
 have ZA:=hide (Row.two w #[.bool false,.bool false,.bool false,.bool false,.bool false,.bool false] #[.bool false,.bool false,.bool false,.bool false,.bool false,.bool false] 89 89)
 have ZB:=hide (og w (.cells #[.bool false,.bool false,.bool false,.bool false,.bool false,.bool false] 89) (.cells #[.bool false,.bool false,.bool false,.bool false,.bool false,.bool false] 89))
 have hl0:(l:Int)<6:=by omega
 rw[qp] at AP ⊢
 go_enter Tryz.func132,Tryz.ntmps132
 go_wp2_with (first|(refine wpList_store_row rfl 89 _ _ rfl (w.heap.size+1) (bsA 6 (fun i=>(2 ^ l).testBit i)) rfl rfl 89 #[.bool false,.bool false,.bool false,.bool false,.bool false,.bool false] ?_ (Tryz.iHeldB _) rfl (iI _ _) ?_;(exact HR1.out.2.raw))|(go_at_call 146;refine (AP.out _).mono ?_;rintro e w1 ⟨rfl,hb1⟩;have HR1:=hide (show Row w1 w.heap.size _ _/\Row w1 (w.heap.size+1) _ _ from ⟨ZA.out.1.below hb1,ZA.out.2.below hb1⟩);have HB1:=hide (ak ZB.out hb1);clear hb1))
 exact bodyPost_ret (v:=.agg (bsA 6 (fun i=>(2 ^ l).testBit i))) (results_cell_row Tryz.results132 _ _ (w.heap.size+1) 89 _ (0,0) _ rfl (HR1.out.2.setRow _).raw Tryz.underlying89 rfl (Tryz.iHeldB _)) rfl ⟨rfl,below_setRow HB1.out (by omega) _⟩
def rcA (r:Rc):Array Value:=(rcV r).toArray
theorem QN (r:Rc):(rcA r).size=10:=rfl
theorem gW (r:Rc):(rcA r).all (·.oneCell')=true:=by simp[rcA,rcV,stA,Value.oneCell']
theorem Tryz.iRc (r:Rc):(Tryz.prog.info? 130).map (·.size)=some (rcA r).size:=by rw[QN];exact Tryz.iReached
theorem fq (r:Rc):(rcA r)[0]?=some (.int .i64 (r.p:Int)):=rfl
theorem Fz (r:Rc):(rcA r)[7]?=some (.bool r.off):=rfl
theorem TW (r:Rc):∀i,i<6->(rcA r)[1+i]?=some (.bool (r.h.testBit i)):=by
 intro i hi
 have hc:i=0\/i=1\/i=2\/i=3\/i=4\/i=5:=by omega
 rcases hc with rfl|rfl|rfl|rfl|rfl|rfl<;>rfl
theorem Row.gL {w:World}{g:Nat}{r:Rc}(h:Row w g (rcA r) 130):∀i,i<6->w.cell? ⟨g,1+i,none⟩=some (.bool (r.h.testBit i)):=fun i hi=>h.cell _ (TW r i hi)
theorem Row.gM {w:World}{g:Nat}{hd:Bool}{s:ByteArray}{v3 v4 v0:Value}(h:Row w g #[v0,.bool hd,.string s,v3,v4] 127):w.rangeAt g 1 [.bool hd,.string s,v3]:=h.range 1 _ (fun j v hj=>by
 match j,hj with
 | 0,hj=>cases hj;rfl
 | 1,hj=>cases hj;rfl
 | 2,hj=>cases hj;rfl
 | j+3,hj=>rw[List.getElem?_eq_none (by simp)] at hj;cases hj)
structure Q4 (w W:World)(hd:Bool)(s:ByteArray)(lg:Nat)(kv:Value)(r:Rc):Prop where
 k:Row W w.heap.size #[.bool hd,.bool hd,.string s,.slice (some ⟨lg,0,none⟩) s.size s.size,kv] 127
 r:Row W (w.heap.size+1) (rcA r) 130
 z:Row W (w.heap.size+2) #[.bool false,.bool false,.bool false,.bool false,.bool false,.bool false] 89
 y:Row W (w.heap.size+3) #[.bool false,.bool false,.bool false,.bool false,.bool false,.bool false] 89
 b:Below w.heap.size w W
theorem Q4.below {w W W':World}{hd:Bool}{s:ByteArray}{lg:Nat}{kv:Value}{r:Rc}(h:Q4 w W hd s lg kv r)(hb:Below W.heap.size W W'):Q4 w W' hd s lg kv r:=⟨h.k.below hb,h.r.below hb,h.z.below hb,h.y.below hb,ak h.b hb⟩
theorem Q4.new (w:World)(hd:Bool)(s:ByteArray)(lg:Nat)(kv:Value)(r:Rc):Q4 w ((((w.alloc (.cells #[.bool hd,.bool hd,.string s,.slice (some ⟨lg,0,none⟩) s.size s.size,kv] 127)).alloc (.cells (rcA r) 130)).alloc (.cells #[.bool false,.bool false,.bool false,.bool false,.bool false,.bool false] 89)).alloc (.cells #[.bool false,.bool false,.bool false,.bool false,.bool false,.bool false] 89)) hd s lg kv r:=by
 obtain ⟨a,b,c,d⟩:=Row.four w #[.bool hd,.bool hd,.string s,.slice (some ⟨lg,0,none⟩) s.size s.size,kv] (rcA r) #[.bool false,.bool false,.bool false,.bool false,.bool false,.bool false] #[.bool false,.bool false,.bool false,.bool false,.bool false,.bool false] 127 130 89 89
 exact ⟨a,b,c,d,uV w _ _ _ _⟩
theorem MR (hd:Bool)(s:ByteArray)(lg:Nat)(kao:Option Addr)(kn kc:Nat)(r:Rc)(w:World)(hs:s.size<=300)(hp:r.p<=20000)(hok:bG s.data.toList) :
  Calls Tryz.prog 106 #[.agg #[.bool hd,.bool hd,.string s,.slice (some ⟨lg,0,none⟩) s.size s.size,.slice kao kn kc],.agg (rcA r)] w fun e w'=>e=.returned (.agg (jI (tkP s.data.toList r.p r.h)))/\Below w.heap.size w w':=by
 have AA:=hide (fun W=>iF hd s (some ⟨lg,0,none⟩) s.size s.size r.p W (by omega) hp)
 have AN:=hide (fun W=>pO hd s (some ⟨lg,0,none⟩) s.size s.size r.p W (by omega) hp hok)
 have hn:=vR hok r.p
 obtain ⟨B,hB⟩:∃B:Nat->Bool,B=fun i=>r.h.testBit i:=⟨_,rfl⟩
 have HBH:=hide hB
 clear hB
 have AH:Hid (∀W,Calls Tryz.prog 130 #[.agg #[.bool (B 0),.bool (B 1),.bool (B 2),.bool (B 3),.bool (B 4),.bool (B 5)],.int .i64 (aW s.data.toList r.p)] W fun e w'=>e=.returned (.bool (hasB r.h (aW s.data.toList r.p)))/\Below W.heap.size W w'):=hide (fun W=>by rw[HBH.out];exact vT r.h _ W (by omega) (by omega))
 have AW:Hid (∀l:Nat,∀W,l<6->Calls Tryz.prog 132 #[.agg #[.bool false,.bool false,.bool false,.bool false,.bool false,.bool false],.int .i64 l] W fun e w'=>e=.returned (.agg (bsA 6 (fun i=>(2 ^ l).testBit i)))/\Below W.heap.size W w'):=hide (fun l W hl=>JE l W hl)
 have ZA:=hide (Q4.new w hd s lg (.slice kao kn kc) r)
 have hz:Hid (jI 0=#[.bool false,.bool false,.bool false,.bool false,.bool false,.bool false]):=hide rfl
 have htk:Hid (tkP s.data.toList r.p r.h=if atB s.data.toList r.p=43/\hasB r.h (aW s.data.toList r.p)=false then 2 ^ (aW s.data.toList r.p).toNat else 0):=hide rfl
 have hpos:atB s.data.toList r.p=43->0<=aW s.data.toList r.p:=fun h=>by
  unfold aW
  rw[if_pos (Or.inl h)]
  have:=jD hok (Or.inl h)
  omega
 generalize tkP s.data.toList r.p r.h=tk at *
 have hbd:=jG s.data.toList r.p
 clear hok
 generalize atB s.data.toList r.p=c at *
 generalize aW s.data.toList r.p=n at *
 have x0:((((w.alloc (.cells #[.bool hd,.bool hd,.string s,.slice (some ⟨lg,0,none⟩) s.size s.size,.slice kao kn kc] 127)).alloc (.cells (rcA r) 130)).alloc (.cells #[.bool false,.bool false,.bool false,.bool false,.bool false,.bool false] 89)).alloc (.cells #[.bool false,.bool false,.bool false,.bool false,.bool false,.bool false] 89)).cell? ⟨w.heap.size+1,0,none⟩=some (.int .i64 (r.p:Int)):=ZA.out.r.cell 0 (fq r)
 by_cases hc:c=43
 ·subst hc
  have hn0:=hpos rfl
  obtain ⟨l,hl⟩:∃l:Nat,n=(l:Int):=⟨n.toNat,by omega⟩
  subst hl
  have hl6:l<6:=by omega
  cases hh:hasB r.h (l:Int)
  ·have HH:=hide hh
   rw[hh] at AH htk
   clear hh
   have tu:Hid (jI tk=bsA 6 (fun i=>(2 ^ l).testBit i)):=hide (by rw[htk.out,if_pos ⟨rfl,rfl⟩];rfl)
   rw[tu.out]
   clear htk hz hpos
   go_enter Tryz.func106,Tryz.ntmps106
   go_wp2_with (first|(go_at_call 132;refine (AW.out _ _ hl6).mono ?_;rintro e w4 ⟨rfl,hb4⟩;have HQ4:=hide (HQ3.out.below hb4);clear hb4)|(refine wpList_load_row rfl 89 _ rfl _ rfl 89 #[.bool false,.bool false,.bool false,.bool false,.bool false,.bool false] (0,0) _ ?_ Tryz.underlying89 rfl Tryz.iHeld ?_;(exact HQ3.out.y.raw))|(go_at_call 130;refine (AH.out _).mono ?_;rintro e w3 ⟨rfl,hb3⟩;have HQ3:=hide (HQ2.out.below hb3);clear hb3)|(go_at_call 105;refine (AA.out _).mono ?_;rintro e w2 ⟨rfl,hb2⟩;have HQ2:=hide (HQ1.out.below hb2);clear hb2;have y0:w2.cell? ⟨w.heap.size+1,1,none⟩=some (.bool (B 0)):=(by rw[HBH.out];exact HQ2.out.r.gL 0 (by omega));have y1:w2.cell? ⟨w.heap.size+1,2,none⟩=some (.bool (B 1)):=(by rw[HBH.out];exact HQ2.out.r.gL 1 (by omega));have y2:w2.cell? ⟨w.heap.size+1,3,none⟩=some (.bool (B 2)):=(by rw[HBH.out];exact HQ2.out.r.gL 2 (by omega));have y3:w2.cell? ⟨w.heap.size+1,4,none⟩=some (.bool (B 3)):=(by rw[HBH.out];exact HQ2.out.r.gL 3 (by omega));have y4:w2.cell? ⟨w.heap.size+1,5,none⟩=some (.bool (B 4)):=(by rw[HBH.out];exact HQ2.out.r.gL 4 (by omega));have y5:w2.cell? ⟨w.heap.size+1,6,none⟩=some (.bool (B 5)):=(by rw[HBH.out];exact HQ2.out.r.gL 5 (by omega)))|(refine wpList_load_mid rfl 88 _ rfl _ _ rfl [.bool hd,.string s,.slice (some ⟨lg,0,none⟩) s.size s.size] _ ?_ Tryz.underlying88 rfl Tryz.iCode ?_;(exact HQ1.out.k.gM))|(go_at_call 129;refine (AN.out _).mono ?_;rintro e w1 ⟨rfl,hb1⟩;have HQ1:=hide (ZA.out.below hb1);clear hb1)|(refine wpList_load_mid rfl 88 _ rfl _ _ rfl [.bool hd,.string s,.slice (some ⟨lg,0,none⟩) s.size s.size] _ ?_ Tryz.underlying88 rfl Tryz.iCode ?_;(exact ZA.out.k.gM))|(refine wpList_store_row rfl 89 _ _ rfl (w.heap.size+2) (bsA 6 (fun i=>(2 ^ l).testBit i)) rfl rfl 89 #[.bool false,.bool false,.bool false,.bool false,.bool false,.bool false] ?_ (Tryz.iHeldB _) rfl (iI _ _) ?_;(exact HQ4.out.z.raw)))
   exact bodyPost_ret (v:=.agg (bsA 6 (fun i=>(2 ^ l).testBit i))) (results_cell_row Tryz.results106 _ _ (w.heap.size+2) 89 _ (0,0) _ rfl (HQ4.out.z.setRow _).raw Tryz.underlying89 rfl (Tryz.iHeldB _)) rfl ⟨rfl,below_setRow HQ4.out.b (by omega) _⟩
  ·have HH:=hide hh
   rw[hh] at AH htk
   clear hh
   have tu:Hid (jI tk=#[.bool false,.bool false,.bool false,.bool false,.bool false,.bool false]):=hide (by rw[htk.out,if_neg (by simp)];rfl)
   rw[tu.out]
   clear htk hz hpos AW
   go_enter Tryz.func106,Tryz.ntmps106
   go_wp2_with (first|(refine wpList_load_row rfl 89 _ rfl _ rfl 89 #[.bool false,.bool false,.bool false,.bool false,.bool false,.bool false] (0,0) _ ?_ Tryz.underlying89 rfl Tryz.iHeld ?_;(exact HQ3.out.y.raw))|(go_at_call 130;refine (AH.out _).mono ?_;rintro e w3 ⟨rfl,hb3⟩;have HQ3:=hide (HQ2.out.below hb3);clear hb3)|(go_at_call 105;refine (AA.out _).mono ?_;rintro e w2 ⟨rfl,hb2⟩;have HQ2:=hide (HQ1.out.below hb2);clear hb2;have y0:w2.cell? ⟨w.heap.size+1,1,none⟩=some (.bool (B 0)):=(by rw[HBH.out];exact HQ2.out.r.gL 0 (by omega));have y1:w2.cell? ⟨w.heap.size+1,2,none⟩=some (.bool (B 1)):=(by rw[HBH.out];exact HQ2.out.r.gL 1 (by omega));have y2:w2.cell? ⟨w.heap.size+1,3,none⟩=some (.bool (B 2)):=(by rw[HBH.out];exact HQ2.out.r.gL 2 (by omega));have y3:w2.cell? ⟨w.heap.size+1,4,none⟩=some (.bool (B 3)):=(by rw[HBH.out];exact HQ2.out.r.gL 3 (by omega));have y4:w2.cell? ⟨w.heap.size+1,5,none⟩=some (.bool (B 4)):=(by rw[HBH.out];exact HQ2.out.r.gL 4 (by omega));have y5:w2.cell? ⟨w.heap.size+1,6,none⟩=some (.bool (B 5)):=(by rw[HBH.out];exact HQ2.out.r.gL 5 (by omega)))|(refine wpList_load_mid rfl 88 _ rfl _ _ rfl [.bool hd,.string s,.slice (some ⟨lg,0,none⟩) s.size s.size] _ ?_ Tryz.underlying88 rfl Tryz.iCode ?_;(exact HQ1.out.k.gM))|(go_at_call 129;refine (AN.out _).mono ?_;rintro e w1 ⟨rfl,hb1⟩;have HQ1:=hide (ZA.out.below hb1);clear hb1)|(refine wpList_load_mid rfl 88 _ rfl _ _ rfl [.bool hd,.string s,.slice (some ⟨lg,0,none⟩) s.size s.size] _ ?_ Tryz.underlying88 rfl Tryz.iCode ?_;(exact ZA.out.k.gM))|(refine wpList_store_row rfl 89 _ _ rfl (w.heap.size+2) #[.bool false,.bool false,.bool false,.bool false,.bool false,.bool false] rfl rfl 89 #[.bool false,.bool false,.bool false,.bool false,.bool false,.bool false] ?_ Tryz.iHeld rfl (by simp[Value.oneCell']) ?_;(exact HQ3.out.z.raw)))
   exact bodyPost_ret (v:=.agg #[.bool false,.bool false,.bool false,.bool false,.bool false,.bool false]) (results_cell_row Tryz.results106 _ _ (w.heap.size+2) 89 _ (0,0) _ rfl (HQ3.out.z.setRow _).raw Tryz.underlying89 rfl Tryz.iHeld) rfl ⟨rfl,below_setRow HQ3.out.b (by omega) _⟩
 ·have tu:Hid (jI tk=#[.bool false,.bool false,.bool false,.bool false,.bool false,.bool false]):=hide (by rw[htk.out,if_neg (fun h=>hc h.1)];rfl)
  rw[tu.out]
  clear htk hz hpos AW AH
  go_enter Tryz.func106,Tryz.ntmps106
  go_wp2_with (first|(refine wpList_load_row rfl 89 _ rfl _ rfl 89 #[.bool false,.bool false,.bool false,.bool false,.bool false,.bool false] (0,0) _ ?_ Tryz.underlying89 rfl Tryz.iHeld ?_;(exact HQ2.out.y.raw))|(go_at_call 105;refine (AA.out _).mono ?_;rintro e w2 ⟨rfl,hb2⟩;have HQ2:=hide (HQ1.out.below hb2);clear hb2;have y0:w2.cell? ⟨w.heap.size+1,1,none⟩=some (.bool (B 0)):=(by rw[HBH.out];exact HQ2.out.r.gL 0 (by omega));have y1:w2.cell? ⟨w.heap.size+1,2,none⟩=some (.bool (B 1)):=(by rw[HBH.out];exact HQ2.out.r.gL 1 (by omega));have y2:w2.cell? ⟨w.heap.size+1,3,none⟩=some (.bool (B 2)):=(by rw[HBH.out];exact HQ2.out.r.gL 2 (by omega));have y3:w2.cell? ⟨w.heap.size+1,4,none⟩=some (.bool (B 3)):=(by rw[HBH.out];exact HQ2.out.r.gL 3 (by omega));have y4:w2.cell? ⟨w.heap.size+1,5,none⟩=some (.bool (B 4)):=(by rw[HBH.out];exact HQ2.out.r.gL 4 (by omega));have y5:w2.cell? ⟨w.heap.size+1,6,none⟩=some (.bool (B 5)):=(by rw[HBH.out];exact HQ2.out.r.gL 5 (by omega)))|(refine wpList_load_mid rfl 88 _ rfl _ _ rfl [.bool hd,.string s,.slice (some ⟨lg,0,none⟩) s.size s.size] _ ?_ Tryz.underlying88 rfl Tryz.iCode ?_;(exact HQ1.out.k.gM))|(go_at_call 129;refine (AN.out _).mono ?_;rintro e w1 ⟨rfl,hb1⟩;have HQ1:=hide (ZA.out.below hb1);clear hb1)|(refine wpList_load_mid rfl 88 _ rfl _ _ rfl [.bool hd,.string s,.slice (some ⟨lg,0,none⟩) s.size s.size] _ ?_ Tryz.underlying88 rfl Tryz.iCode ?_;(exact ZA.out.k.gM))|(refine wpList_store_row rfl 89 _ _ rfl (w.heap.size+2) #[.bool false,.bool false,.bool false,.bool false,.bool false,.bool false] rfl rfl 89 #[.bool false,.bool false,.bool false,.bool false,.bool false,.bool false] ?_ Tryz.iHeld rfl (by simp[Value.oneCell']) ?_;(exact HQ2.out.z.raw)))
  exact bodyPost_ret (v:=.agg #[.bool false,.bool false,.bool false,.bool false,.bool false,.bool false]) (results_cell_row Tryz.results106 _ _ (w.heap.size+2) 89 _ (0,0) _ rfl (HQ2.out.z.setRow _).raw Tryz.underlying89 rfl Tryz.iHeld) rfl ⟨rfl,below_setRow HQ2.out.b (by omega) _⟩
end
end Go.Proofs.YtecmfdkhcffpmaaGreat
