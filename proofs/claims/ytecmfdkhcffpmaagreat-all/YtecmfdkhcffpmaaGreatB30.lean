/- ProgN, ProgO. -/
import Derived.Test.YtecmfdkhcffpmaaGreatB27
import Derived.Test.YtecmfdkhcffpmaaGreatB29
namespace Go.Proofs.YtecmfdkhcffpmaaGreat
open Go.RowKit
set_option linter.unusedVariables false
set_option linter.unusedSimpArgs false
set_option linter.unusedSectionVars false
set_option maxHeartbeats 8000000
set_option maxRecDepth 100000
section
open Mc
theorem Tryz.iProc:(Tryz.prog.info? 95).map (·.size)=some 26:=by kernel_rfl
theorem Tryz.uProcR:∃d,Tryz.prog.underlying 95=some d/\d.isRow=true:=⟨_,Tryz.underlying95,rfl⟩
def pcV (its:List Wd.It)(lg:Nat->Nat)(x:Cp):List Value:=fpV its lg x.t x.off++fpV its lg x.h x.h.there
theorem qz (its:List Wd.It)(lg:Nat->Nat)(x:Cp):(pcV its lg x).toArray.all (·.oneCell')=true:=by simp[pcV,fpV,Value.oneCell']
theorem Tryz.iProcV (its:List Wd.It)(lg:Nat->Nat)(x:Cp):(Tryz.prog.info? 95).map (·.size)=some (pcV its lg x).length:=Tryz.iProc
theorem Tryz.iProcA (its:List Wd.It)(lg:Nat->Nat)(x:Cp):(Tryz.prog.info? 95).map (·.size)=some (pcV its lg x).toArray.size:=Tryz.iProc
theorem nG {w:World}{b:Nat}{ai:Option Addr}{ci:Nat}{lg:Nat->Nat}{its:List Wd.It}{S:Ma}(h:PM w b ai ci lg its S)(c:Nat)(hc:c<3):w.rangeAt b (1+c*26) (pcV its lg (S.cp c)):=by
 intro j v hj
 by_cases hl:j<13
 ·rw[pcV,List.getElem?_append_left (by simpa [fpV] using hl)] at hj
  exact wD h c hc j v hj
 ·rw[pcV,List.getElem?_append_right (by simp[fpV];omega)] at hj
  have:=qD h c hc (j-13) v hj
  rwa [show 1+c*26+13+(j-13)=1+c*26+j by omega] at this
theorem lD {w:World}{g:Nat}{t:TypeId}{its:List Wd.It}{lg:Nat->Nat}{x:Cp}(h:Row w g (pcV its lg x).toArray t):w.cell? ⟨g,0,none⟩=some (.bool x.t.there)/\w.cell? ⟨g,1,none⟩=some (.int .i64 (x.t.item:Int))/\w.cell? ⟨g,5,none⟩=some (.int .i64 (x.t.pos:Int))/\w.cell? ⟨g,12,none⟩=some (.bool x.off)/\w.cell? ⟨g,13,none⟩=some (.bool x.h.there):=⟨h.cell 0 rfl,h.cell 1 rfl,h.cell 5 rfl,h.cell 12 rfl,h.cell 13 rfl⟩
theorem Qr {w:World}{b:Nat}{ai:Option Addr}{ci:Nat}{lg:Nat->Nat}{its:List Wd.It}{S:Ma}(h:PM w b ai ci lg its S){n:Nat}(hn:n<its.length):∃g,ai=some ⟨g,0,none⟩/\g≠b/\w.cell? ⟨g,n*6,none⟩=some (.bool (isH its n))/\w.rangeAt g (n*6+1) [.bool (isH its n),.string (Wd.mkS (ah its n)),.slice (some ⟨lg n,0,none⟩) (ah its n).length (ah its n).length]:=by
 obtain ⟨g,e1,e2,e3⟩:=h.item hn
 have hp:=nH its lg S n
 refine ⟨g,e1,e3,by rw[e2.cell _ (by omega),hp.1],fun j v hj=>?_⟩
 have hl:j<3:=(List.getElem?_eq_some_iff.1 hj).1
 rw[e2.cell _ (by omega),<-hj]
 rcases j with _|_|_|j
 ·rw[Nat.add_zero,hp.2.1];rfl
 ·rw[Nat.add_assoc,hp.2.2.1];rfl
 ·rw[Nat.add_assoc,hp.2.2.2.1];rfl
 ·omega
theorem PM.setH {w:World}{b:Nat}{ai:Option Addr}{ci:Nat}{lg:Nat->Nat}{its:List Wd.It}{S:Ma}(h:PM w b ai ci lg its S)(c:Nat)(hc:c<3)(f:Fr):PM (w.setCells b (1+c*26+13) (fpV its lg f f.there)) b ai ci lg its (av S c {(S.cp c) with h:=f}):=by
 refine h.upd ((KP.refl b ai w).sets _ _) ?_ ?_
 ·refine (Blk.sets _ _ _ _ h.root).congr fun i hi=>?_
  unfold pmF
  by_cases i0:i=0
  ·subst i0
   rw[if_neg (by omega)];simp
  ·rw[if_neg i0,if_neg i0]
   obtain ⟨m,hm⟩:∃m,(i-1)%26=m:=⟨_,rfl⟩
   have GL:m<26:=by rw[<-hm];exact Nat.mod_lt _ (by omega)
   rw[hm]
   unfold pcF av
   by_cases e:(i-1) / 26=c
   ·have hi:i=1+c*26+m:=by omega
    simp only[e,if_true]
    by_cases gm:m<13
    ·rw[if_pos gm,if_neg (by omega),if_pos gm]
    ·rw[if_neg gm,if_pos (by omega),if_neg gm,hi,show 1+c*26+m-(1+c*26+13)=m-13 by omega,vX _ _ _ _ _ (by omega)];rfl
   ·simp only[if_neg e]
    by_cases hle:1+c*26+13<=i
    ·rw[if_pos hle,List.getElem?_eq_none (by simp[fpV];omega)];rfl
    ·rw[if_neg hle]
 ·intro g hl hg
  obtain ⟨g',e1,e2,e3⟩:=h.items hl
  rw[hg] at e1;cases e1
  exact (e2.kK e3 _ _).congr fun i hi=>rfl
theorem PM.fK {w:World}{b:Nat}{ai:Option Addr}{ci:Nat}{lg:Nat->Nat}{its:List Wd.It}{S:Ma}(h:PM w b ai ci lg its S)(c:Nat)(hc:c<3)(f:Fr)(o:Bool):PM (w.setCells b (1+c*26) (fpV its lg f o)) b ai ci lg its (av S c {(S.cp c) with t:=f,off:=o}):=by
 refine h.upd ((KP.refl b ai w).sets _ _) ?_ ?_
 ·refine (Blk.sets _ _ _ _ h.root).congr fun i hi=>?_
  unfold pmF
  by_cases i0:i=0
  ·subst i0
   rw[if_neg (by omega)];simp
  ·rw[if_neg i0,if_neg i0]
   obtain ⟨m,hm⟩:∃m,(i-1)%26=m:=⟨_,rfl⟩
   have GL:m<26:=by rw[<-hm];exact Nat.mod_lt _ (by omega)
   rw[hm]
   unfold pcF av
   by_cases e:(i-1) / 26=c
   ·have hi:i=1+c*26+m:=by omega
    simp only[e,if_true]
    by_cases gm:m<13
    ·rw[if_pos gm,if_pos (by omega),if_pos gm,hi,Nat.add_sub_cancel_left,vX _ _ _ _ _ gm];rfl
    ·rw[if_neg gm,if_pos (by omega),if_neg gm,hi,List.getElem?_eq_none (by simp[fpV];omega)];rfl
   ·simp only[if_neg e]
    by_cases hle:1+c*26<=i
    ·rw[if_pos hle,List.getElem?_eq_none (by simp[fpV];omega)];rfl
    ·rw[if_neg hle]
 ·intro g hl hg
  obtain ⟨g',e1,e2,e3⟩:=h.items hl
  rw[hg] at e1;cases e1
  exact (e2.kK e3 _ _).congr fun i hi=>rfl
theorem Jz (w:World)(b:Nat)(ai:Option Addr)(ci:Nat)(lg:Nat->Nat)(its:List Wd.It)(S:Ma)(c n:Nat)(h:PM w b ai ci lg its S)(hc:c<3)(hn:n<its.length)(hh:(S.cp c).h.there=true\/(S.cp c).off=true) :
  Calls Tryz.prog 140 #[.pointer (some ⟨b,0,none⟩),.int .i64 c,.int .i64 n] w fun e w'=>e=.returned (.int .u8 95)/\PM w' b ai ci lg its S/\KP b ai w w':=by
 have HM:=hide h
 have HRC:=hide (nG h c hc)
 obtain ⟨up,hup,hdp⟩:=Tryz.uProcR
 have HUP:=hide hup
 have HDP:=hide hdp
 clear hup hdp
 clear h
 cases h1:(S.cp c).h.there<;>cases h2:(S.cp c).off
 ·simp[h1,h2] at hh
 all_goals (
  have HH:=hide (And.intro h1 h2)
  clear h1 h2 hh
  go_enter Tryz.func140,Tryz.ntmps140
  go_wp2_with (first|(refine wpList_store_row rfl 95 _ _ rfl w.heap.size (pcV its lg (S.cp c)).toArray rfl rfl 95 #[.bool false,.int .i64 0,.bool false,.string ⟨#[]⟩,.slice none 0 0,.int .i64 0,.bool false,.bool false,.bool false,.bool false,.bool false,.bool false,.bool false,.bool false,.int .i64 0,.bool false,.string ⟨#[]⟩,.slice none 0 0,.int .i64 0,.bool false,.bool false,.bool false,.bool false,.bool false,.bool false,.bool false] ?_ (Tryz.iProcA _ _ _) rfl (qz _ _ _) ?_;(exact (Row.new w #[.bool false,.int .i64 0,.bool false,.string ⟨#[]⟩,.slice none 0 0,.int .i64 0,.bool false,.bool false,.bool false,.bool false,.bool false,.bool false,.bool false,.bool false,.int .i64 0,.bool false,.string ⟨#[]⟩,.slice none 0 0,.int .i64 0,.bool false,.bool false,.bool false,.bool false,.bool false,.bool false,.bool false] 95).raw);rw[World.setRow_alloc_new];have HR1:=hide (Row.new w (pcV its lg (S.cp c)).toArray 95);have HB1:=hide (aD w (.cells (pcV its lg (S.cp c)).toArray 95));generalize w.alloc (.cells (pcV its lg (S.cp c)).toArray 95)=w1 at *;have q1:=lD HR1.out;rw[HH.out.1,HH.out.2] at q1;have q10:=q1.1;have q11:=q1.2.1;have q15:=q1.2.2.1;have o6:=q1.2.2.2.1;have o7:=q1.2.2.2.2;clear q1)|(refine wpList_load_mid rfl 95 _ rfl _ _ rfl (pcV its lg (S.cp c)) up ?_ HUP.out HDP.out (Tryz.iProcV _ _ _) ?_;(exact HRC.out)))
  go_ret
  exact ⟨rfl,HM.out.below HB1.out,KP.of HB1.out⟩)
theorem IZ (w:World)(b:Nat)(ai:Option Addr)(ci:Nat)(lg:Nat->Nat)(its:List Wd.It)(S:Ma)(c n:Nat)(h:PM w b ai ci lg its S)(hc:c<3)(hn:n<its.length)(hk:isH its n=true)(h1:(S.cp c).h.there=false)(h2:(S.cp c).off=false) :
  Calls Tryz.prog 140 #[.pointer (some ⟨b,0,none⟩),.int .i64 c,.int .i64 n] w fun e w'=>e=.returned (.int .u8 104)/\PM w' b ai ci lg its (av S c {(S.cp c) with h:=⟨true,n,0,0⟩})/\KP b ai w w':=by
 have CA:=h.caps
 unfold maxLen at CA
 have HM:=hide h
 have HRC:=hide (nG h c hc)
 obtain ⟨g,hg,hgb,_,hic⟩:=Qr h hn
 rw[hk] at hic
 have hgl:g<w.heap.size:=h.pb.ai (by omega) g hg
 have hbl:b<w.heap.size:=h.pb.b
 have r0:w.cell? ⟨b,0,none⟩=some (.slice (some ⟨g,0,none⟩) its.length ci):=by rw[<-hg];exact h.slot
 have HIC:Hid (∀W,Below w.heap.size w W->W.rangeAt g (n*6+1) [.bool true,.string (Wd.mkS (ah its n)),.slice (some ⟨lg n,0,none⟩) (ah its n).length (ah its n).length]):=hide fun W hW j v hj=>(hW.cell (p:=⟨g,n*6+1+j,none⟩) hgl).trans (hic j v hj)
 have ABE:=hide (fun W=>uS true (Wd.mkS (ah its n)) (some ⟨lg n,0,none⟩) (ah its n).length (ah its n).length W)
 have HH:=hide (And.intro h1 h2)
 have oZ:(0:Int)<=(c:Int):=by omega
 have o5:(c:Int)<3:=by omega
 have hm:n<its.length:=hn
 obtain ⟨ud,hu,hdd⟩:=Tryz.uCodeR
 have HU:=hide hu
 have HD:=hide hdd
 clear hu hdd
 obtain ⟨up,hup,hdp⟩:=Tryz.uProcR
 have HUP:=hide hup
 have HDP:=hide hdp
 clear hup hdp
 have Ae:Hid (fpV its lg ⟨true,n,0,0⟩ true=[.bool true,.int .i64 n,.bool true,.string (Wd.mkS (ah its n)),.slice (some ⟨lg n,0,none⟩) (ah its n).length (ah its n).length,.int .i64 0,.bool false,.bool false,.bool false,.bool false,.bool false,.bool false,.bool true]):=by apply hide;simp[fpV,fb,fl,hk]
 clear h h1 h2 hic hg hk
 go_enter Tryz.func140,Tryz.ntmps140
 go_wp2_with (first|(refine wpList_store_row rfl 88 _ _ rfl w1.heap.size #[.bool true,.string (Wd.mkS (ah its n)),.slice (some ⟨lg n,0,none⟩) (ah its n).length (ah its n).length] rfl rfl 88 #[.bool false,.string ⟨#[]⟩,.slice none 0 0] ?_ Tryz.iCode rfl (by simp[Value.oneCell']) ?_;(exact (Row.new w1 #[.bool false,.string ⟨#[]⟩,.slice none 0 0] 88).raw);rw[World.setRow_alloc_new];have HR2:=hide (Row.new w1 #[.bool true,.string (Wd.mkS (ah its n)),.slice (some ⟨lg n,0,none⟩) (ah its n).length (ah its n).length] 88);have HB2:=hide (aL HB1.out (.cells #[.bool true,.string (Wd.mkS (ah its n)),.slice (some ⟨lg n,0,none⟩) (ah its n).length (ah its n).length] 88));have hg1:w.heap.size<=w1.heap.size:=HB1.out.size;generalize w1.alloc (.cells #[.bool true,.string (Wd.mkS (ah its n)),.slice (some ⟨lg n,0,none⟩) (ah its n).length (ah its n).length] 88)=w2 at *;skip)|(refine wpList_load_mid rfl 88 _ rfl _ _ rfl [.bool true,.string (Wd.mkS (ah its n)),.slice (some ⟨lg n,0,none⟩) (ah its n).length (ah its n).length] ud ?_ HU.out HD.out Tryz.iCode ?_;(exact HIC.out _ HB1.out))|(refine wpList_store_row rfl 95 _ _ rfl w.heap.size (pcV its lg (S.cp c)).toArray rfl rfl 95 #[.bool false,.int .i64 0,.bool false,.string ⟨#[]⟩,.slice none 0 0,.int .i64 0,.bool false,.bool false,.bool false,.bool false,.bool false,.bool false,.bool false,.bool false,.int .i64 0,.bool false,.string ⟨#[]⟩,.slice none 0 0,.int .i64 0,.bool false,.bool false,.bool false,.bool false,.bool false,.bool false,.bool false] ?_ (Tryz.iProcA _ _ _) rfl (qz _ _ _) ?_;(exact (Row.new w #[.bool false,.int .i64 0,.bool false,.string ⟨#[]⟩,.slice none 0 0,.int .i64 0,.bool false,.bool false,.bool false,.bool false,.bool false,.bool false,.bool false,.bool false,.int .i64 0,.bool false,.string ⟨#[]⟩,.slice none 0 0,.int .i64 0,.bool false,.bool false,.bool false,.bool false,.bool false,.bool false,.bool false] 95).raw);rw[World.setRow_alloc_new];have HR1:=hide (Row.new w (pcV its lg (S.cp c)).toArray 95);have HB1:=hide (aD w (.cells (pcV its lg (S.cp c)).toArray 95));generalize w.alloc (.cells (pcV its lg (S.cp c)).toArray 95)=w1 at *;have q1:=lD HR1.out;rw[HH.out.1,HH.out.2] at q1;have q10:=q1.1;have q11:=q1.2.1;have q15:=q1.2.2.1;have o6:=q1.2.2.2.1;have o7:=q1.2.2.2.2;clear q1;have r1:w1.cell? ⟨b,0,none⟩=some (.slice (some ⟨g,0,none⟩) its.length ci):=(HB1.out.cell (p:=⟨b,0,none⟩) hbl).trans r0)|(refine wpList_load_mid rfl 95 _ rfl _ _ rfl (pcV its lg (S.cp c)) up ?_ HUP.out HDP.out (Tryz.iProcV _ _ _) ?_;(exact HRC.out)))
 clear q10 q11 q15 o6 o7 r0 r1
 have hne:w1.heap.size≠b:=by omega
 have y0:w2.cell? ⟨w1.heap.size,0,none⟩=some (.bool true):=HR2.out.cell 0 rfl
 have y1:w2.cell? ⟨w1.heap.size,1,none⟩=some (.string (Wd.mkS (ah its n))):=HR2.out.cell 1 rfl
 have y2:w2.cell? ⟨w1.heap.size,2,none⟩=some (.slice (some ⟨lg n,0,none⟩) (ah its n).length (ah its n).length):=HR2.out.cell 2 rfl
 go_region_held3 (fun W'=>W'.cell? ⟨w1.heap.size,0,none⟩=some (.bool true)/\W'.cell? ⟨w1.heap.size,1,none⟩=some (.string (Wd.mkS (ah its n)))/\W'.cell? ⟨w1.heap.size,2,none⟩=some (.slice (some ⟨lg n,0,none⟩) (ah its n).length (ah its n).length)) (first|go_keep|(refine ⟨?_,?_,?_⟩<;>(repeat rw[ay hne])<;>assumption)) (first|(go_at_call 104;refine (ABE.out _).mono ?_;rintro e w3 ⟨rfl,hb3⟩;have HR3:=hide (HR2.out.below (ak ((Below.refl _ _).drew) hb3));have HM3:=hide (HM.out.below (ak HB2.out (ak ((Below.refl _ _).drew) hb3)));have x0:w3.cell? ⟨w1.heap.size,0,none⟩=some (.bool true):=HR3.out.cell 0 rfl;have x1:w3.cell? ⟨w1.heap.size,1,none⟩=some (.string (Wd.mkS (ah its n))):=HR3.out.cell 1 rfl;have x2:w3.cell? ⟨w1.heap.size,2,none⟩=some (.slice (some ⟨lg n,0,none⟩) (ah its n).length (ah its n).length):=HR3.out.cell 2 rfl;obtain ⟨c0,d0⟩:∃v,w3.cell? ⟨b,1+c*26+13,none⟩=some v:=⟨_,HM3.out.root.cell (1+c*26+13) (by omega)⟩;have e0:w3.frozen? ⟨b,1+c*26+13,none⟩=false:=HM3.out.root.frozen _;obtain ⟨c1,d1⟩:∃v,w3.cell? ⟨b,1+c*26+13+1,none⟩=some v:=⟨_,HM3.out.root.cell (1+c*26+13+1) (by omega)⟩;have e1:w3.frozen? ⟨b,1+c*26+13+1,none⟩=false:=HM3.out.root.frozen _;obtain ⟨c2,d2⟩:∃v,w3.cell? ⟨b,1+c*26+13+2,none⟩=some v:=⟨_,HM3.out.root.cell (1+c*26+13+2) (by omega)⟩;have e2:w3.frozen? ⟨b,1+c*26+13+2,none⟩=false:=HM3.out.root.frozen _;obtain ⟨c3,d3⟩:∃v,w3.cell? ⟨b,1+c*26+13+3,none⟩=some v:=⟨_,HM3.out.root.cell (1+c*26+13+3) (by omega)⟩;have e3:w3.frozen? ⟨b,1+c*26+13+3,none⟩=false:=HM3.out.root.frozen _;obtain ⟨c4,d4⟩:∃v,w3.cell? ⟨b,1+c*26+13+4,none⟩=some v:=⟨_,HM3.out.root.cell (1+c*26+13+4) (by omega)⟩;have e4:w3.frozen? ⟨b,1+c*26+13+4,none⟩=false:=HM3.out.root.frozen _;obtain ⟨c5,d5⟩:∃v,w3.cell? ⟨b,1+c*26+13+5,none⟩=some v:=⟨_,HM3.out.root.cell (1+c*26+13+5) (by omega)⟩;have e5:w3.frozen? ⟨b,1+c*26+13+5,none⟩=false:=HM3.out.root.frozen _;obtain ⟨c6,d6⟩:∃v,w3.cell? ⟨b,1+c*26+13+6,none⟩=some v:=⟨_,HM3.out.root.cell (1+c*26+13+6) (by omega)⟩;have e6:w3.frozen? ⟨b,1+c*26+13+6,none⟩=false:=HM3.out.root.frozen _;obtain ⟨c7,d7⟩:∃v,w3.cell? ⟨b,1+c*26+13+7,none⟩=some v:=⟨_,HM3.out.root.cell (1+c*26+13+7) (by omega)⟩;have e7:w3.frozen? ⟨b,1+c*26+13+7,none⟩=false:=HM3.out.root.frozen _;obtain ⟨c8,d8⟩:∃v,w3.cell? ⟨b,1+c*26+13+8,none⟩=some v:=⟨_,HM3.out.root.cell (1+c*26+13+8) (by omega)⟩;have e8:w3.frozen? ⟨b,1+c*26+13+8,none⟩=false:=HM3.out.root.frozen _;obtain ⟨c9,d9⟩:∃v,w3.cell? ⟨b,1+c*26+13+9,none⟩=some v:=⟨_,HM3.out.root.cell (1+c*26+13+9) (by omega)⟩;have e9:w3.frozen? ⟨b,1+c*26+13+9,none⟩=false:=HM3.out.root.frozen _;obtain ⟨c10,d10⟩:∃v,w3.cell? ⟨b,1+c*26+13+10,none⟩=some v:=⟨_,HM3.out.root.cell (1+c*26+13+10) (by omega)⟩;have e10:w3.frozen? ⟨b,1+c*26+13+10,none⟩=false:=HM3.out.root.frozen _;obtain ⟨c11,d11⟩:∃v,w3.cell? ⟨b,1+c*26+13+11,none⟩=some v:=⟨_,HM3.out.root.cell (1+c*26+13+11) (by omega)⟩;have e11:w3.frozen? ⟨b,1+c*26+13+11,none⟩=false:=HM3.out.root.frozen _;obtain ⟨c12,d12⟩:∃v,w3.cell? ⟨b,1+c*26+13+12,none⟩=some v:=⟨_,HM3.out.root.cell (1+c*26+13+12) (by omega)⟩;have e12:w3.frozen? ⟨b,1+c*26+13+12,none⟩=false:=HM3.out.root.frozen _))
 all_goals (
  have HM4:Hid (PM (w3.setCells b (1+c*26+13) [.bool true,.int .i64 n,.bool true,.string (Wd.mkS (ah its n)),.slice (some ⟨lg n,0,none⟩) (ah its n).length (ah its n).length,.int .i64 0,.bool false,.bool false,.bool false,.bool false,.bool false,.bool false,.bool true]) b ai ci lg its (av S c {(S.cp c) with h:=⟨true,n,0,0⟩})):=by
   apply hide
   have:=HM3.out.setH c hc ⟨true,n,0,0⟩
   rwa [Ae.out] at this
  have HK4:=hide ((KP.of (b:=b) (ai:=ai) (ak HB2.out (ak ((Below.refl _ _).drew) hb3))).sets (1+c*26+13) [.bool true,.int .i64 n,.bool true,.string (Wd.mkS (ah its n)),.slice (some ⟨lg n,0,none⟩) (ah its n).length (ah its n).length,.int .i64 0,.bool false,.bool false,.bool false,.bool false,.bool false,.bool false,.bool true])
  clear hb3 d0 e0 d1 e1 d2 e2 d3 e3 d4 e4 d5 e5 d6 e6 d7 e7 d8 e8 d9 e9 d10 e10 d11 e11 d12 e12 x0 x1 x2 y0 y1 y2
  go_wp2
  go_ret
  exact ⟨rfl,HM4.out,HK4.out⟩)
end
section
open Mc
theorem Tryz.iItem:(Tryz.prog.info? 150).map (·.size)=some 6:=by kernel_rfl
theorem Tryz.uItemR:∃d,Tryz.prog.underlying 150=some d/\d.isRow=true:=⟨_,Tryz.underlying150,rfl⟩
theorem zu {w:World}{b:Nat}{ai:Option Addr}{ci:Nat}{lg:Nat->Nat}{its:List Wd.It}{S:Ma}(h:PM w b ai ci lg its S){n:Nat}(hn:n<its.length):∃g,ai=some ⟨g,0,none⟩/\g≠b/\w.rangeAt g (n*6) [.bool (isH its n),.bool (isH its n),.string (Wd.mkS (ah its n)),.slice (some ⟨lg n,0,none⟩) (ah its n).length (ah its n).length,.bool (S.rd n),.int .i64 (S.pl n:Int)]:=by
 obtain ⟨g,e1,e2,e3⟩:=h.item hn
 have hp:=nH its lg S n
 refine ⟨g,e1,e3,fun j v hj=>?_⟩
 have hl:j<6:=(List.getElem?_eq_some_iff.1 hj).1
 rw[e2.cell _ (by omega),<-hj]
 rcases j with _|_|_|_|_|_|j
 ·rw[Nat.add_zero,hp.1];rfl
 ·rw[hp.2.1];rfl
 ·rw[hp.2.2.1];rfl
 ·rw[hp.2.2.2.1];rfl
 ·rw[hp.2.2.2.2.1];rfl
 ·rw[hp.2.2.2.2.2];rfl
 ·omega
theorem Ou (w:World)(b:Nat)(ai:Option Addr)(ci:Nat)(lg:Nat->Nat)(its:List Wd.It)(S:Ma)(c n:Nat)(h:PM w b ai ci lg its S)(hn:¬n<its.length)(hn7:n<=255) :
  Calls Tryz.prog 118 #[.pointer (some ⟨b,0,none⟩),.int .i64 c,.int .i64 n] w fun e w'=>e=.returned (.int .u8 95)/\PM w' b ai ci lg its S/\KP b ai w w':=by
 have CA:=h.caps
 unfold maxLen at CA
 have HM:=hide h
 have r0:=h.slot
 clear h
 go_enter Tryz.func118,Tryz.ntmps118
 go_wp2
 go_ret
 exact ⟨rfl,HM.out,KP.refl _ _ _⟩
theorem BH (w:World)(b:Nat)(ai:Option Addr)(ci:Nat)(lg:Nat->Nat)(its:List Wd.It)(S:Ma)(c n:Nat)(h:PM w b ai ci lg its S)(hn:n<its.length)(hk:isH its n=true)(L:Int)(S':Ma)(hin:Calls Tryz.prog 140 #[.pointer (some ⟨b,0,none⟩),.int .i64 c,.int .i64 n] w fun e w'=>e=.returned (.int .u8 L)/\PM w' b ai ci lg its S'/\KP b ai w w') :
  Calls Tryz.prog 118 #[.pointer (some ⟨b,0,none⟩),.int .i64 c,.int .i64 n] w fun e w'=>e=.returned (.int .u8 L)/\PM w' b ai ci lg its S'/\KP b ai w w':=by
 have CA:=h.caps
 unfold maxLen at CA
 obtain ⟨g,hg,hgb,hr⟩:=zu h hn
 have r0:=h.slot
 rw[hg] at r0
 have i0:w.cell? ⟨g,n*6,none⟩=some (.bool true):=by have:=hr 0 _ rfl;rwa [hk] at this
 have AI:=hide hin
 clear h hin hg hr hk
 go_enter Tryz.func118,Tryz.ntmps118
 go_wp2_with (first|(go_at_call 140;refine (AI.out).mono ?_;rintro e w1 ⟨rfl,hm1,hk1⟩;have HM1:=hide hm1;have HK1:=hide hk1;clear hm1 hk1))
 go_ret
 exact ⟨rfl,HM1.out,HK1.out⟩
theorem Qs (w:World)(b:Nat)(ai:Option Addr)(ci:Nat)(lg:Nat->Nat)(its:List Wd.It)(S:Ma)(c n:Nat)(h:PM w b ai ci lg its S)(hc:c<3)(hn:n<its.length)(hk:isH its n=false)(hh:(S.cp c).t.there=true\/(S.cp c).h.there=true\/S.rd n=false) :
  Calls Tryz.prog 118 #[.pointer (some ⟨b,0,none⟩),.int .i64 c,.int .i64 n] w fun e w'=>e=.returned (.int .u8 95)/\PM w' b ai ci lg its S/\KP b ai w w':=by
 have CA:=h.caps
 unfold maxLen at CA
 have HM:=hide h
 have HRC:=hide (nG h c hc)
 obtain ⟨g,hg,hgb,hir⟩:=zu h hn
 rw[hk] at hir
 have hgl:g<w.heap.size:=h.pb.ai (by omega) g hg
 have hbl:b<w.heap.size:=h.pb.b
 have r0:w.cell? ⟨b,0,none⟩=some (.slice (some ⟨g,0,none⟩) its.length ci):=by rw[<-hg];exact h.slot
 have i0:w.cell? ⟨g,n*6,none⟩=some (.bool false):=hir 0 _ rfl
 have HIR:Hid (∀W,Below w.heap.size w W->W.rangeAt g (n*6) [.bool false,.bool false,.string (Wd.mkS (ah its n)),.slice (some ⟨lg n,0,none⟩) (ah its n).length (ah its n).length,.bool (S.rd n),.int .i64 (S.pl n:Int)]):=hide fun W hW j v hj=>(hW.cell (p:=⟨g,n*6+j,none⟩) hgl).trans (hir j v hj)
 obtain ⟨ui,hui,hdi⟩:=Tryz.uItemR
 have HUI:=hide hui
 have HDI:=hide hdi
 clear hui hdi
 obtain ⟨ud,hu,hdd⟩:=Tryz.uCodeR
 have HU:=hide hu
 have HD:=hide hdd
 clear hu hdd
 obtain ⟨up,hup,hdp⟩:=Tryz.uProcR
 have HUP:=hide hup
 have HDP:=hide hdp
 clear hup hdp
 clear h hg hir hk
 cases h1:(S.cp c).t.there<;>cases h2:(S.cp c).h.there<;>cases h3:S.rd n
 all_goals first
  | (exfalso;simp[h1,h2,h3] at hh;done)
  | (
   have HH:=hide (And.intro h1 (And.intro h2 h3))
   clear h1 h2 h3 hh
   go_enter Tryz.func118,Tryz.ntmps118
   go_wp2_with (first|(refine wpList_store_row rfl 150 _ _ rfl w1.heap.size #[.bool false,.bool false,.string (Wd.mkS (ah its n)),.slice (some ⟨lg n,0,none⟩) (ah its n).length (ah its n).length,.bool (S.rd n),.int .i64 (S.pl n:Int)] rfl rfl 150 #[.bool false,.bool false,.string ⟨#[]⟩,.slice none 0 0,.bool false,.int .i64 0] ?_ Tryz.iItem rfl (by simp[Value.oneCell']) ?_;(exact (Row.new w1 #[.bool false,.bool false,.string ⟨#[]⟩,.slice none 0 0,.bool false,.int .i64 0] 150).raw);rw[World.setRow_alloc_new];have HR2:=hide (Row.new w1 #[.bool false,.bool false,.string (Wd.mkS (ah its n)),.slice (some ⟨lg n,0,none⟩) (ah its n).length (ah its n).length,.bool (S.rd n),.int .i64 (S.pl n:Int)] 150);have HB2:=hide (aL HB1.out (.cells #[.bool false,.bool false,.string (Wd.mkS (ah its n)),.slice (some ⟨lg n,0,none⟩) (ah its n).length (ah its n).length,.bool (S.rd n),.int .i64 (S.pl n:Int)] 150));have HP2:=hide (HR1.out.alloc (.cells #[.bool false,.bool false,.string (Wd.mkS (ah its n)),.slice (some ⟨lg n,0,none⟩) (ah its n).length (ah its n).length,.bool (S.rd n),.int .i64 (S.pl n:Int)] 150));generalize w1.alloc (.cells #[.bool false,.bool false,.string (Wd.mkS (ah its n)),.slice (some ⟨lg n,0,none⟩) (ah its n).length (ah its n).length,.bool (S.rd n),.int .i64 (S.pl n:Int)] 150)=w2 at *;have s4:=HR2.out.cell 4 (v:=.bool (S.rd n)) rfl;rw[HH.out.2.2] at s4;have s5:=HR2.out.cell 5 (v:=.int .i64 (S.pl n:Int)) rfl;have q2:=lD HP2.out;rw[HH.out.1,HH.out.2.1] at q2;have q20:=q2.1;have wS:=q2.2.2.2.2;clear q2)|(refine wpList_load_mid rfl 150 _ rfl _ _ rfl [.bool false,.bool false,.string (Wd.mkS (ah its n)),.slice (some ⟨lg n,0,none⟩) (ah its n).length (ah its n).length,.bool (S.rd n),.int .i64 (S.pl n:Int)] ui ?_ HUI.out HDI.out Tryz.iItem ?_;(exact HIR.out _ HB1.out))|(refine wpList_store_row rfl 95 _ _ rfl w.heap.size (pcV its lg (S.cp c)).toArray rfl rfl 95 #[.bool false,.int .i64 0,.bool false,.string ⟨#[]⟩,.slice none 0 0,.int .i64 0,.bool false,.bool false,.bool false,.bool false,.bool false,.bool false,.bool false,.bool false,.int .i64 0,.bool false,.string ⟨#[]⟩,.slice none 0 0,.int .i64 0,.bool false,.bool false,.bool false,.bool false,.bool false,.bool false,.bool false] ?_ (Tryz.iProcA _ _ _) rfl (qz _ _ _) ?_;(exact (Row.new w #[.bool false,.int .i64 0,.bool false,.string ⟨#[]⟩,.slice none 0 0,.int .i64 0,.bool false,.bool false,.bool false,.bool false,.bool false,.bool false,.bool false,.bool false,.int .i64 0,.bool false,.string ⟨#[]⟩,.slice none 0 0,.int .i64 0,.bool false,.bool false,.bool false,.bool false,.bool false,.bool false,.bool false] 95).raw);rw[World.setRow_alloc_new];have HR1:=hide (Row.new w (pcV its lg (S.cp c)).toArray 95);have HB1:=hide (aD w (.cells (pcV its lg (S.cp c)).toArray 95));generalize w.alloc (.cells (pcV its lg (S.cp c)).toArray 95)=w1 at *;have q1:=lD HR1.out;rw[HH.out.1,HH.out.2.1] at q1;have q10:=q1.1;have q11:=q1.2.1;have q15:=q1.2.2.1;have o6:=q1.2.2.2.1;have o7:=q1.2.2.2.2;clear q1;have r1:w1.cell? ⟨b,0,none⟩=some (.slice (some ⟨g,0,none⟩) its.length ci):=(HB1.out.cell (p:=⟨b,0,none⟩) hbl).trans r0)|(refine wpList_load_mid rfl 95 _ rfl _ _ rfl (pcV its lg (S.cp c)) up ?_ HUP.out HDP.out (Tryz.iProcV _ _ _) ?_;(exact HRC.out)))
   go_ret
   exact ⟨rfl,HM.out.below HB2.out,KP.of HB2.out⟩)
theorem Row.Tj {w:World}{g:Nat}{t:TypeId}{a0 a1 a2 a3 a4 a5:Value}(h:Row w g #[a0,a1,a2,a3,a4,a5] t):w.rangeAt g 1 [a1,a2,a3]:=by
 refine h.range 1 _ fun j v hj=>?_
 have hl:j<3:=(List.getElem?_eq_some_iff.1 hj).1
 rw[<-hj]
 rcases j with _|_|_|j<;>first|rfl|omega
theorem Ov (w:World)(b:Nat)(ai:Option Addr)(ci:Nat)(lg:Nat->Nat)(its:List Wd.It)(S:Ma)(c n:Nat)(h:PM w b ai ci lg its S)(hc:c<3)(hn:n<its.length)(hk:isH its n=false)(h1:(S.cp c).t.there=false)(h2:(S.cp c).h.there=false)(h3:S.rd n=true) :
  Calls Tryz.prog 118 #[.pointer (some ⟨b,0,none⟩),.int .i64 c,.int .i64 n] w fun e w'=>e=.returned (.int .u8 116)/\PM w' b ai ci lg its (aQ (av S c {(S.cp c) with t:=⟨true,n,S.pl n,0⟩,off:=false}) n false)/\KP b ai w w':=by
 have CA:=h.caps
 unfold maxLen at CA
 have HM:=hide h
 have HRC:=hide (nG h c hc)
 obtain ⟨g,hg,hgb,hir⟩:=zu h hn
 rw[hk] at hir
 have hgl:g<w.heap.size:=h.pb.ai (by omega) g hg
 have hbl:b<w.heap.size:=h.pb.b
 have r0:w.cell? ⟨b,0,none⟩=some (.slice (some ⟨g,0,none⟩) its.length ci):=by rw[<-hg];exact h.slot
 have i0:w.cell? ⟨g,n*6,none⟩=some (.bool false):=hir 0 _ rfl
 have HIR:Hid (∀W,Below w.heap.size w W->W.rangeAt g (n*6) [.bool false,.bool false,.string (Wd.mkS (ah its n)),.slice (some ⟨lg n,0,none⟩) (ah its n).length (ah its n).length,.bool (S.rd n),.int .i64 (S.pl n:Int)]):=hide fun W hW j v hj=>(hW.cell (p:=⟨g,n*6+j,none⟩) hgl).trans (hir j v hj)
 obtain ⟨ui,hui,hdi⟩:=Tryz.uItemR
 have HUI:=hide hui
 have HDI:=hide hdi
 clear hui hdi
 obtain ⟨ud,hu,hdd⟩:=Tryz.uCodeR
 have HU:=hide hu
 have HD:=hide hdd
 clear hu hdd
 obtain ⟨up,hup,hdp⟩:=Tryz.uProcR
 have HUP:=hide hup
 have HDP:=hide hdp
 clear hup hdp
 have ABE:=hide (fun W=>uS false (Wd.mkS (ah its n)) (some ⟨lg n,0,none⟩) (ah its n).length (ah its n).length W)
 have HH:=hide (And.intro h1 (And.intro h2 h3))
 have Ae:Hid (fpV its lg ⟨true,n,S.pl n,0⟩ false=[.bool true,.int .i64 n,.bool false,.string (Wd.mkS (ah its n)),.slice (some ⟨lg n,0,none⟩) (ah its n).length (ah its n).length,.int .i64 (S.pl n:Int),.bool false,.bool false,.bool false,.bool false,.bool false,.bool false,.bool false]):=by apply hide;simp[fpV,fb,fl,hk]
 have oZ:(0:Int)<=(c:Int):=by omega
 have o5:(c:Int)<3:=by omega
 have HG:=hide hg
 clear h hg hir hk h1 h2 h3
 go_enter Tryz.func118,Tryz.ntmps118
 go_wp2_with (first|(refine wpList_store_row rfl 91 _ _ rfl w3.heap.size #[.int .i64 0,.bool false,.bool false,.bool false,.bool false,.bool false,.bool false,.bool false] rfl rfl 91 #[.int .i64 0,.bool false,.bool false,.bool false,.bool false,.bool false,.bool false,.bool false] ?_ Tryz.iState rfl (by simp[Value.oneCell']) ?_;(exact (Row.new w3 #[.int .i64 0,.bool false,.bool false,.bool false,.bool false,.bool false,.bool false,.bool false] 91).raw);rw[World.setRow_alloc_new];have HS4:=hide (Row.new w3 #[.int .i64 0,.bool false,.bool false,.bool false,.bool false,.bool false,.bool false,.bool false] 91);have HB4:=hide (aL HB3.out (.cells #[.int .i64 0,.bool false,.bool false,.bool false,.bool false,.bool false,.bool false,.bool false] 91));have HR4:=hide (HR3.out.alloc (.cells #[.int .i64 0,.bool false,.bool false,.bool false,.bool false,.bool false,.bool false,.bool false] 91));generalize w3.alloc (.cells #[.int .i64 0,.bool false,.bool false,.bool false,.bool false,.bool false,.bool false,.bool false] 91)=w4 at *;have s5:=HR4.out.cell 5 (v:=.int .i64 (S.pl n:Int)) rfl;have f5:=HS4.out.frozen 0;have f6:=HS4.out.cell 0 (v:=.int .i64 0) rfl)|(go_at_call 104;refine (ABE.out _).mono ?_;rintro e w3 ⟨rfl,hb3⟩;have HR3:=hide (HR2.out.below hb3);have HB3:=hide (ak HB2.out hb3);clear hb3)|(refine wpList_load_mid rfl 88 _ rfl _ _ rfl [.bool false,.string (Wd.mkS (ah its n)),.slice (some ⟨lg n,0,none⟩) (ah its n).length (ah its n).length] ud ?_ HU.out HD.out Tryz.iCode ?_;(exact HR2.out.Tj))|(refine wpList_store_row rfl 150 _ _ rfl w1.heap.size #[.bool false,.bool false,.string (Wd.mkS (ah its n)),.slice (some ⟨lg n,0,none⟩) (ah its n).length (ah its n).length,.bool (S.rd n),.int .i64 (S.pl n:Int)] rfl rfl 150 #[.bool false,.bool false,.string ⟨#[]⟩,.slice none 0 0,.bool false,.int .i64 0] ?_ Tryz.iItem rfl (by simp[Value.oneCell']) ?_;(exact (Row.new w1 #[.bool false,.bool false,.string ⟨#[]⟩,.slice none 0 0,.bool false,.int .i64 0] 150).raw);rw[World.setRow_alloc_new];have HR2:=hide (Row.new w1 #[.bool false,.bool false,.string (Wd.mkS (ah its n)),.slice (some ⟨lg n,0,none⟩) (ah its n).length (ah its n).length,.bool (S.rd n),.int .i64 (S.pl n:Int)] 150);have HB2:=hide (aL HB1.out (.cells #[.bool false,.bool false,.string (Wd.mkS (ah its n)),.slice (some ⟨lg n,0,none⟩) (ah its n).length (ah its n).length,.bool (S.rd n),.int .i64 (S.pl n:Int)] 150));have HP2:=hide (HR1.out.alloc (.cells #[.bool false,.bool false,.string (Wd.mkS (ah its n)),.slice (some ⟨lg n,0,none⟩) (ah its n).length (ah its n).length,.bool (S.rd n),.int .i64 (S.pl n:Int)] 150));generalize w1.alloc (.cells #[.bool false,.bool false,.string (Wd.mkS (ah its n)),.slice (some ⟨lg n,0,none⟩) (ah its n).length (ah its n).length,.bool (S.rd n),.int .i64 (S.pl n:Int)] 150)=w2 at *;have s4:=HR2.out.cell 4 (v:=.bool (S.rd n)) rfl;rw[HH.out.2.2] at s4;have s5:=HR2.out.cell 5 (v:=.int .i64 (S.pl n:Int)) rfl;have q2:=lD HP2.out;rw[HH.out.1,HH.out.2.1] at q2;have q20:=q2.1;have wS:=q2.2.2.2.2;clear q2)|(refine wpList_load_mid rfl 150 _ rfl _ _ rfl [.bool false,.bool false,.string (Wd.mkS (ah its n)),.slice (some ⟨lg n,0,none⟩) (ah its n).length (ah its n).length,.bool (S.rd n),.int .i64 (S.pl n:Int)] ui ?_ HUI.out HDI.out Tryz.iItem ?_;(exact HIR.out _ HB1.out))|(refine wpList_store_row rfl 95 _ _ rfl w.heap.size (pcV its lg (S.cp c)).toArray rfl rfl 95 #[.bool false,.int .i64 0,.bool false,.string ⟨#[]⟩,.slice none 0 0,.int .i64 0,.bool false,.bool false,.bool false,.bool false,.bool false,.bool false,.bool false,.bool false,.int .i64 0,.bool false,.string ⟨#[]⟩,.slice none 0 0,.int .i64 0,.bool false,.bool false,.bool false,.bool false,.bool false,.bool false,.bool false] ?_ (Tryz.iProcA _ _ _) rfl (qz _ _ _) ?_;(exact (Row.new w #[.bool false,.int .i64 0,.bool false,.string ⟨#[]⟩,.slice none 0 0,.int .i64 0,.bool false,.bool false,.bool false,.bool false,.bool false,.bool false,.bool false,.bool false,.int .i64 0,.bool false,.string ⟨#[]⟩,.slice none 0 0,.int .i64 0,.bool false,.bool false,.bool false,.bool false,.bool false,.bool false,.bool false] 95).raw);rw[World.setRow_alloc_new];have HR1:=hide (Row.new w (pcV its lg (S.cp c)).toArray 95);have HB1:=hide (aD w (.cells (pcV its lg (S.cp c)).toArray 95));generalize w.alloc (.cells (pcV its lg (S.cp c)).toArray 95)=w1 at *;have q1:=lD HR1.out;rw[HH.out.1,HH.out.2.1] at q1;have q10:=q1.1;have q11:=q1.2.1;have q15:=q1.2.2.1;have o6:=q1.2.2.2.1;have o7:=q1.2.2.2.2;clear q1;have r1:w1.cell? ⟨b,0,none⟩=some (.slice (some ⟨g,0,none⟩) its.length ci):=(HB1.out.cell (p:=⟨b,0,none⟩) hbl).trans r0)|(refine wpList_load_mid rfl 95 _ rfl _ _ rfl (pcV its lg (S.cp c)) up ?_ HUP.out HDP.out (Tryz.iProcV _ _ _) ?_;(exact HRC.out)))
 have HS5:=hide (HS4.out.s80 (.int .i64 (S.pl n:Int)))
 have hg3:w1.heap.size<w3.heap.size:=HR3.out.lt
 have hg1:w.heap.size<=w1.heap.size:=HB1.out.size
 have HR5:=hide (HR4.out.aA (g:=w3.heap.size) (by omega) 0 (.int .i64 (S.pl n:Int)))
 have HB5:=hide (HB4.out.setCell (p:=⟨w3.heap.size,0,none⟩) (show w.heap.size<=w3.heap.size by omega) (.int .i64 (S.pl n:Int)))
 clear q10 q11 q15 o6 o7 r1 q20 wS s4 s5 f5 f6
 generalize w4.setCell ⟨w3.heap.size,0,none⟩ (.int .i64 (S.pl n:Int))=w5 at *
 have HM5:=hide (HM.out.below HB5.out)
 have y0:w5.cell? ⟨w1.heap.size,1,none⟩=some (.bool false):=HR5.out.cell 1 rfl
 have y1:w5.cell? ⟨w1.heap.size,2,none⟩=some (.string (Wd.mkS (ah its n))):=HR5.out.cell 2 rfl
 have y2:w5.cell? ⟨w1.heap.size,3,none⟩=some (.slice (some ⟨lg n,0,none⟩) (ah its n).length (ah its n).length):=HR5.out.cell 3 rfl
 have z0:w5.cell? ⟨w3.heap.size,0,none⟩=some (.int .i64 (S.pl n:Int)):=HS5.out.cell 0 rfl
 have z1:w5.cell? ⟨w3.heap.size,1,none⟩=some (.bool false):=HS5.out.cell 1 rfl
 have z2:w5.cell? ⟨w3.heap.size,2,none⟩=some (.bool false):=HS5.out.cell 2 rfl
 have z3:w5.cell? ⟨w3.heap.size,3,none⟩=some (.bool false):=HS5.out.cell 3 rfl
 have z4:w5.cell? ⟨w3.heap.size,4,none⟩=some (.bool false):=HS5.out.cell 4 rfl
 have z5:w5.cell? ⟨w3.heap.size,5,none⟩=some (.bool false):=HS5.out.cell 5 rfl
 have z6:w5.cell? ⟨w3.heap.size,6,none⟩=some (.bool false):=HS5.out.cell 6 rfl
 have z7:w5.cell? ⟨w3.heap.size,7,none⟩=some (.bool false):=HS5.out.cell 7 rfl
 obtain ⟨c0,d0⟩:∃v,w5.cell? ⟨b,1+c*26,none⟩=some v:=⟨_,HM5.out.root.cell (1+c*26) (by omega)⟩
 have ef0:w5.frozen? ⟨b,1+c*26,none⟩=false:=HM5.out.root.frozen _
 obtain ⟨c1,d1⟩:∃v,w5.cell? ⟨b,1+c*26+1,none⟩=some v:=⟨_,HM5.out.root.cell (1+c*26+1) (by omega)⟩
 have ef1:w5.frozen? ⟨b,1+c*26+1,none⟩=false:=HM5.out.root.frozen _
 obtain ⟨c2,d2⟩:∃v,w5.cell? ⟨b,1+c*26+2,none⟩=some v:=⟨_,HM5.out.root.cell (1+c*26+2) (by omega)⟩
 have ef2:w5.frozen? ⟨b,1+c*26+2,none⟩=false:=HM5.out.root.frozen _
 obtain ⟨c3,d3⟩:∃v,w5.cell? ⟨b,1+c*26+3,none⟩=some v:=⟨_,HM5.out.root.cell (1+c*26+3) (by omega)⟩
 have ef3:w5.frozen? ⟨b,1+c*26+3,none⟩=false:=HM5.out.root.frozen _
 obtain ⟨c4,d4⟩:∃v,w5.cell? ⟨b,1+c*26+4,none⟩=some v:=⟨_,HM5.out.root.cell (1+c*26+4) (by omega)⟩
 have ef4:w5.frozen? ⟨b,1+c*26+4,none⟩=false:=HM5.out.root.frozen _
 obtain ⟨c5,d5⟩:∃v,w5.cell? ⟨b,1+c*26+5,none⟩=some v:=⟨_,HM5.out.root.cell (1+c*26+5) (by omega)⟩
 have ef5:w5.frozen? ⟨b,1+c*26+5,none⟩=false:=HM5.out.root.frozen _
 obtain ⟨c6,d6⟩:∃v,w5.cell? ⟨b,1+c*26+6,none⟩=some v:=⟨_,HM5.out.root.cell (1+c*26+6) (by omega)⟩
 have ef6:w5.frozen? ⟨b,1+c*26+6,none⟩=false:=HM5.out.root.frozen _
 obtain ⟨c7,d7⟩:∃v,w5.cell? ⟨b,1+c*26+7,none⟩=some v:=⟨_,HM5.out.root.cell (1+c*26+7) (by omega)⟩
 have ef7:w5.frozen? ⟨b,1+c*26+7,none⟩=false:=HM5.out.root.frozen _
 obtain ⟨c8,d8⟩:∃v,w5.cell? ⟨b,1+c*26+8,none⟩=some v:=⟨_,HM5.out.root.cell (1+c*26+8) (by omega)⟩
 have ef8:w5.frozen? ⟨b,1+c*26+8,none⟩=false:=HM5.out.root.frozen _
 obtain ⟨c9,d9⟩:∃v,w5.cell? ⟨b,1+c*26+9,none⟩=some v:=⟨_,HM5.out.root.cell (1+c*26+9) (by omega)⟩
 have ef9:w5.frozen? ⟨b,1+c*26+9,none⟩=false:=HM5.out.root.frozen _
 obtain ⟨c10,d10⟩:∃v,w5.cell? ⟨b,1+c*26+10,none⟩=some v:=⟨_,HM5.out.root.cell (1+c*26+10) (by omega)⟩
 have Un:w5.frozen? ⟨b,1+c*26+10,none⟩=false:=HM5.out.root.frozen _
 obtain ⟨c11,d11⟩:∃v,w5.cell? ⟨b,1+c*26+11,none⟩=some v:=⟨_,HM5.out.root.cell (1+c*26+11) (by omega)⟩
 have Uo:w5.frozen? ⟨b,1+c*26+11,none⟩=false:=HM5.out.root.frozen _
 obtain ⟨c12,d12⟩:∃v,w5.cell? ⟨b,1+c*26+12,none⟩=some v:=⟨_,HM5.out.root.cell (1+c*26+12) (by omega)⟩
 have Uq:w5.frozen? ⟨b,1+c*26+12,none⟩=false:=HM5.out.root.frozen _
 have hne1:w1.heap.size≠b:=by omega
 have jJ:w3.heap.size≠b:=by omega
 have KEEP:Hid (∀W',W'=(((((((((((((w5.setCell ⟨b,1+c*26,none⟩ (.bool true)).setCell ⟨b,1+c*26+1,none⟩ (.int .i64 n)).setCell ⟨b,1+c*26+2,none⟩ (.bool false)).setCell ⟨b,1+c*26+3,none⟩ (.string (Wd.mkS (ah its n)))).setCell ⟨b,1+c*26+4,none⟩ (.slice (some ⟨lg n,0,none⟩) (ah its n).length (ah its n).length)).setCell ⟨b,1+c*26+5,none⟩ (.int .i64 (S.pl n:Int))).setCell ⟨b,1+c*26+6,none⟩ (.bool false)).setCell ⟨b,1+c*26+7,none⟩ (.bool false)).setCell ⟨b,1+c*26+8,none⟩ (.bool false)).setCell ⟨b,1+c*26+9,none⟩ (.bool false)).setCell ⟨b,1+c*26+10,none⟩ (.bool false)).setCell ⟨b,1+c*26+11,none⟩ (.bool false)).setCell ⟨b,1+c*26+12,none⟩ (.bool false)).drew->W'.cell? ⟨w1.heap.size,1,none⟩=some (.bool false)/\W'.cell? ⟨w1.heap.size,2,none⟩=some (.string (Wd.mkS (ah its n)))/\W'.cell? ⟨w1.heap.size,3,none⟩=some (.slice (some ⟨lg n,0,none⟩) (ah its n).length (ah its n).length)/\W'.cell? ⟨w3.heap.size,0,none⟩=some (.int .i64 (S.pl n:Int))/\W'.cell? ⟨w3.heap.size,1,none⟩=some (.bool false)/\W'.cell? ⟨w3.heap.size,2,none⟩=some (.bool false)/\W'.cell? ⟨w3.heap.size,3,none⟩=some (.bool false)/\W'.cell? ⟨w3.heap.size,4,none⟩=some (.bool false)/\W'.cell? ⟨w3.heap.size,5,none⟩=some (.bool false)/\W'.cell? ⟨w3.heap.size,6,none⟩=some (.bool false)/\W'.cell? ⟨w3.heap.size,7,none⟩=some (.bool false)):=by
  apply hide
  rintro _ rfl
  have k1:=(((((((((((((HR5.out.aA hne1 (1+c*26) (.bool true)).aA hne1 (1+c*26+1) (.int .i64 n)).aA hne1 (1+c*26+2) (.bool false)).aA hne1 (1+c*26+3) (.string (Wd.mkS (ah its n)))).aA hne1 (1+c*26+4) (.slice (some ⟨lg n,0,none⟩) (ah its n).length (ah its n).length)).aA hne1 (1+c*26+5) (.int .i64 (S.pl n:Int))).aA hne1 (1+c*26+6) (.bool false)).aA hne1 (1+c*26+7) (.bool false)).aA hne1 (1+c*26+8) (.bool false)).aA hne1 (1+c*26+9) (.bool false)).aA hne1 (1+c*26+10) (.bool false)).aA hne1 (1+c*26+11) (.bool false)).aA hne1 (1+c*26+12) (.bool false)).below ((Below.refl _ _).drew)
  have k2:=(((((((((((((HS5.out.aA jJ (1+c*26) (.bool true)).aA jJ (1+c*26+1) (.int .i64 n)).aA jJ (1+c*26+2) (.bool false)).aA jJ (1+c*26+3) (.string (Wd.mkS (ah its n)))).aA jJ (1+c*26+4) (.slice (some ⟨lg n,0,none⟩) (ah its n).length (ah its n).length)).aA jJ (1+c*26+5) (.int .i64 (S.pl n:Int))).aA jJ (1+c*26+6) (.bool false)).aA jJ (1+c*26+7) (.bool false)).aA jJ (1+c*26+8) (.bool false)).aA jJ (1+c*26+9) (.bool false)).aA jJ (1+c*26+10) (.bool false)).aA jJ (1+c*26+11) (.bool false)).aA jJ (1+c*26+12) (.bool false)).below ((Below.refl _ _).drew)
  exact ⟨k1.cell 1 rfl,k1.cell 2 rfl,k1.cell 3 rfl,k2.cell 0 rfl,k2.cell 1 rfl,k2.cell 2 rfl,k2.cell 3 rfl,k2.cell 4 rfl,k2.cell 5 rfl,k2.cell 6 rfl,k2.cell 7 rfl⟩
 go_region_held3 (fun W'=>W'.cell? ⟨w1.heap.size,1,none⟩=some (.bool false)/\W'.cell? ⟨w1.heap.size,2,none⟩=some (.string (Wd.mkS (ah its n)))/\W'.cell? ⟨w1.heap.size,3,none⟩=some (.slice (some ⟨lg n,0,none⟩) (ah its n).length (ah its n).length)/\W'.cell? ⟨w3.heap.size,0,none⟩=some (.int .i64 (S.pl n:Int))/\W'.cell? ⟨w3.heap.size,1,none⟩=some (.bool false)/\W'.cell? ⟨w3.heap.size,2,none⟩=some (.bool false)/\W'.cell? ⟨w3.heap.size,3,none⟩=some (.bool false)/\W'.cell? ⟨w3.heap.size,4,none⟩=some (.bool false)/\W'.cell? ⟨w3.heap.size,5,none⟩=some (.bool false)/\W'.cell? ⟨w3.heap.size,6,none⟩=some (.bool false)/\W'.cell? ⟨w3.heap.size,7,none⟩=some (.bool false)) (first|exact KEEP.out _ (by with_reducible rfl)|go_keep) (fail)
 all_goals (
  have HM6:Hid (PM (w5.setCells b (1+c*26) [.bool true,.int .i64 n,.bool false,.string (Wd.mkS (ah its n)),.slice (some ⟨lg n,0,none⟩) (ah its n).length (ah its n).length,.int .i64 (S.pl n:Int),.bool false,.bool false,.bool false,.bool false,.bool false,.bool false,.bool false]) b ai ci lg its (av S c {(S.cp c) with t:=⟨true,n,S.pl n,0⟩,off:=false})):=by
   apply hide
   have:=HM5.out.fK c hc ⟨true,n,S.pl n,0⟩ false
   rwa [Ae.out] at this
  have HK6:=hide ((KP.of (b:=b) (ai:=ai) HB5.out).sets (1+c*26) [.bool true,.int .i64 n,.bool false,.string (Wd.mkS (ah its n)),.slice (some ⟨lg n,0,none⟩) (ah its n).length (ah its n).length,.int .i64 (S.pl n:Int),.bool false,.bool false,.bool false,.bool false,.bool false,.bool false,.bool false])
  have HM7:=hide (HM6.out.aQ HG.out n false).drew
  have HK7:=hide (HK6.out.sO HG.out (n*6+4) (.bool false)).drew
  obtain ⟨g',e1,e2,e3⟩:=HM5.out.item hn
  have hgg:g'=g:=by rw[HG.out] at e1;cases e1;rfl
  subst hgg
  have i4:w5.cell? ⟨g',n*6+4,none⟩=some (.bool (S.rd n)):=by rw[e2.cell _ (by omega),(nH its lg S n).2.2.2.2.1]
  have i5:w5.frozen? ⟨g',n*6+4,none⟩=false:=e2.frozen _
  have r5:w5.cell? ⟨b,0,none⟩=some (.slice (some ⟨g',0,none⟩) its.length ci):=by rw[HM5.out.slot,HG.out]
  clear e1 e2 d0 ef0 d1 ef1 d2 ef2 d3 ef3 d4 ef4 d5 ef5 d6 ef6 d7 ef7 d8 ef8 d9 ef9 d10 Un d11 Uo d12 Uq y0 y1 y2 z0 z1 z2 z3 z4 z5 z6 z7
  go_wp2
  go_ret
  exact ⟨rfl,HM7.out,HK7.out⟩)
end
end Go.Proofs.YtecmfdkhcffpmaaGreat
