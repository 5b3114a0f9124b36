/- MacQ, MacR, MacS. -/
import Derived.Test.YtecmfdkhcffpmaaGreatB14
import Derived.Test.YtecmfdkhcffpmaaGreatB20
import Derived.Laws.MakeOwn
import Derived.Deep.AppendLies
import Derived.Deep.RegionLaw
import Derived.Test.YtecmfdkhcffpmaaGreatB05
import Derived.Test.YtecmfdkhcffpmaaGreatB16
import Derived.Test.YtecmfdkhcffpmaaGreatB15
import Derived.Test.YtecmfdkhcffpmaaGreatB11
import Derived.Test.YtecmfdkhcffpmaaGreatB06
import Derived.Laws.BytesArg
import Derived.Laws.IdiomStrings
namespace Go.Proofs.YtecmfdkhcffpmaaGreat
open Go.RowKit
set_option linter.unusedVariables false
set_option linter.unusedSimpArgs false
set_option linter.unusedSectionVars false
set_option maxHeartbeats 8000000
set_option maxRecDepth 100000
section
open Mc
def jY:Array Value:=#[.bool false,.int .i64 0,.int .i64 0,.int .i64 0,.bool false,.int .i64 0,.int .i64 0,.int .i64 0,.bool false]
theorem Tryz.infoCpu:(Tryz.prog.info? 110).map (fun i=>(i.zero,i.size,i.bytes))=some (some (.agg #[.bool false,.int .i64 0,.int .i64 0,.int .i64 0,.bool false,.int .i64 0,.int .i64 0,.int .i64 0,.bool false]),9,72):=by kernel_rfl
theorem RA (w:World)(n:Nat)(hn:n<=1000):(Instr.makeSlice 101 (.int .i64 n) (.int .i64 n)).run Tryz.prog w=.ok (.slice (some ⟨w.heap.size,0,none⟩) n n) (w.alloc (.cells (madeCells jY (n*9)) 110)):=by
 obtain ⟨i,h1,h2,h3,h4⟩:=info_parts Tryz.infoCpu
 have:=run_make w 101 110 i _ Tryz.underlying101 h1 h2 .i64 .i64 n n (by omega) (by omega) (by rw[h4];omega) (by omega)
 rw[this,h3];simp[Value.cells,jY]
theorem Cw (w:World)(a c d:Obj):((((w.alloc a).alloc c).alloc d).drew.heap[w.heap.size]?=some a/\(((w.alloc a).alloc c).alloc d).drew.heap[w.heap.size+1]?=some c/\(((w.alloc a).alloc c).alloc d).drew.heap[w.heap.size+1+1]?=some d)/\Below w.heap.size w (((w.alloc a).alloc c).alloc d).drew:=by
 refine ⟨⟨?_,?_,?_⟩,((((Below.refl _ _).alloc (Nat.le_refl _) _).alloc (by simp) _).alloc (by simp;omega) _).drew⟩
 ·show (((w.heap.push a).push c).push d)[w.heap.size]?=some a
  rw[Array.getElem?_push,if_neg (by simp;omega),Array.getElem?_push,if_neg (by simp),Array.getElem?_push,if_pos rfl]
 ·show (((w.heap.push a).push c).push d)[w.heap.size+1]?=some c
  rw[Array.getElem?_push,if_neg (by simp),Array.getElem?_push,if_pos (by simp)]
 ·show (((w.heap.push a).push c).push d)[w.heap.size+1+1]?=some d
  rw[Array.getElem?_push,if_pos (by simp)]
def rdV (its:List Wd.It):List Value:=its.map fun x=>.bool (!x.handler)
theorem EL (its:List Wd.It)(k:Nat)(h:k<its.length):rdV (its.take (k+1))=rdV (its.take k)++[.bool (!isH its k)]:=by
 have e:isH its k=its[k].handler:=by simp[isH,List.getD,h]
 rw[rdV,rdV,List.take_succ_eq_append_getElem h,List.map_append,e];rfl
theorem DM.beg {w W:World}{its:List Wd.It}{n:Nat}{ai:Option Addr}{ci b g1 g3:Nat}{v:Value}(hn:n<=3)(hl:its.length<=240)(hci:its.length<=ci/\ci<=maxLen)(hit:0<its.length->∃g,ai=some ⟨g,0,none⟩/\Blk w g (its.length*2) (itF its))
  (hr:W.heap[b]?=some (.cells #[.slice ai its.length ci,.slice (some ⟨g1,0,none⟩) n n,v,.slice (some ⟨g3,0,none⟩) its.length its.length] 104 (0,0)))
  (ho:W.ownsRow (b+1) 4 1 v its.length (rdV its)) (h1:W.heap[g1]?=some (.cells (madeCells jY (n*9)) 110 (0,0))) (h3:W.heap[g3]?=some (.cells (madeCells #[.int .i64 0] its.length) 3 (0,0))) (hb:Below w.heap.size w W)
  (l1:w.heap.size<=g1) (l3:w.heap.size<=g3) (e13:g1≠g3) (l1b:g1<b) (l3b:g3<b) :
  ∃A,A.ai=ai/\A.ci=ci/\(∀g,A.a2=some ⟨g,0,none⟩->g<W.heap.size)/\DM W w.heap.size b A its n (aM its):=by
 obtain ⟨hlen,hv⟩:=ho
 have hcp:Blk W g1 (n*9) (iE (aM its)):=by
  refine ⟨_,_,h1,fun i hi=>?_⟩
  rw[qZ _ _ _ hi]
  have hm:i%9<9:=Nat.mod_lt _ (by omega)
  show some (jY[i%9]!)=some (cpF bU (i%9))
  generalize i%9=m at *
  rcases m with _|_|_|_|_|_|_|_|_|m<;>first|rfl|omega
 have hat:Blk W g3 its.length (fun i=>.int .i64 ((aM its).pl i:Int)):=by
  refine ⟨_,_,h3,fun i hi=>?_⟩
  rw[qZ _ _ _ hi]
  show some ((#[Value.int .i64 0])[i%1]!)=_
  rw[Nat.mod_one];rfl
 have FQ:0<its.length->∃g,ai=some ⟨g,0,none⟩/\Blk W g (its.length*2) (itF its)/\g≠b/\g≠g1/\g≠g3:=fun h=>by
  obtain ⟨g,e,hg⟩:=hit h
  have:=hg.lt
  exact ⟨g,e,hg.below hb,by omega,by omega,by omega⟩
 have m1:b≠g1:=by omega
 have m2:b≠g3:=by omega
 have m4:w.heap.size<=b:=by omega
 have k0:0<=maxLen:=Nat.zero_le _
 have k1:n<=maxLen:=by unfold maxLen;omega
 have k3:its.length<=maxLen:=by unfold maxLen;omega
 rcases hv with ⟨rfl,h0⟩ | ⟨g,cap,cur,rfl,hbase,hg,hc1,hc2,hcs,hct⟩
 ·refine ⟨⟨ai,ci,g1,n,none,0,g3,its.length⟩,rfl,rfl,(fun g e=>by cases e),⟨⟨_,_,hr,fun i hi=>?_⟩,FQ,hcp,fun h=>absurd h (by omega),hat,⟨m1,m2,e13,m4,l1,l3⟩,⟨hci.1,hci.2,Nat.le_refl _,k1,Nat.le_of_eq h0,k0,Nat.le_refl _,k3⟩,⟨by simp,by simp,by simp,by simp⟩⟩⟩
  rcases i with _|_|_|_|i<;>first|rfl|(simp[h0];done)|omega
 ·have p1:g≠b:=by omega
  have p2:g≠g1:=by omega
  have p3:g≠g3:=by omega
  have p4:w.heap.size<=g:=by omega
  refine ⟨⟨ai,ci,g1,n,some ⟨g,0,none⟩,cap,g3,its.length⟩,rfl,rfl,(fun g' e=>by cases e;exact bB hg),⟨⟨_,_,hr,fun i hi=>?_⟩,FQ,hcp,fun h=>⟨g,rfl,⟨_,_,hg,fun i hi=>?_⟩,p1,p2,p3,p4,fun e=>?_⟩,hat,⟨m1,m2,e13,m4,l1,l3⟩,⟨hci.1,hci.2,Nat.le_refl _,k1,hc1,hc2,Nat.le_refl _,k3⟩,⟨fun e=>p1 (congrArg Addr.block (Option.some.inj e)),fun e=>p2 (congrArg Addr.block (Option.some.inj e)),fun e=>p3 (congrArg Addr.block (Option.some.inj e)),fun g' e=>by cases e;exact p4⟩⟩⟩
  ·rcases i with _|_|_|_|i<;>first|rfl|omega
  ·have e:cur.toList[i]?=(rdV its)[i]?:=by rw[<-hct,List.getElem?_take,if_pos (by omega)]
   rw[<-Array.getElem?_toList,e]
   simp[rdV,aM,isH,List.getD,hi]
  ·obtain ⟨g',e',hg'⟩:=hit h
   have:=hg'.lt
   simp only at e
   rw[e'] at e;cases e;omega
theorem Eh (w:World)(its:List Wd.It)(n:Nat)(ai:Option Addr)(ci:Nat)(hn:n<=3)(hl:its.length<=240)(hci:its.length<=ci/\ci<=maxLen)(hit:0<its.length->∃g,ai=some ⟨g,0,none⟩/\Blk w g (its.length*2) (itF its)) :
  Calls Tryz.prog 38 #[.slice ai its.length ci,.int .i64 n] w fun e w'=>∃b A,e=.returned (.pointer (some ⟨b,0,none⟩))/\A.ai=ai/\A.ci=ci/\(∀g,A.a2=some ⟨g,0,none⟩->g<w'.heap.size)/\DM w' w.heap.size b A its n (aM its)/\Below w.heap.size w w':=by
 have GD:=fun W=>RA W n (by omega)
 have GH:=fun W=>zn W its.length (by omega)
 obtain ⟨i0,hi0,hz0,hz1,hz2⟩:=info_parts Tryz.infoBool
 have HIT:=hide hit
 have HCI:=hide hci
 clear hit hci
 go_enter Tryz.func38,Tryz.ntmps38
 go_wp2_with fail
 go_region
 ·have HT:=hide (Cw w (.cells (madeCells jY (n*9)) 110) (.cells (madeCells #[.int .i64 0] its.length) 3) (.cells #[.slice ai its.length ci,.slice (some ⟨w.heap.size,0,none⟩) n n,.slice none 0 0,.slice (some ⟨w.heap.size+1,0,none⟩) its.length its.length] 104))
  clear GD GH
  generalize (((w.alloc (.cells (madeCells jY (n*9)) 110)).alloc (.cells (madeCells #[.int .i64 0] its.length) 3)).alloc (.cells #[.slice ai its.length ci,.slice (some ⟨w.heap.size,0,none⟩) n n,.slice none 0 0,.slice (some ⟨w.heap.size+1,0,none⟩) its.length its.length] 104)).drew=W at *
  go_wp2
  go_loopw [6] (fun a wr=>∃(k:Nat) (v:Value),k<=its.length/\a=.int .i64 k/\wr.heap[w.heap.size+1+1]?=some (.cells #[.slice ai its.length ci,.slice (some ⟨w.heap.size,0,none⟩) n n,v,.slice (some ⟨w.heap.size+1,0,none⟩) its.length its.length] 104 (0,0))/\wr.ownsRow (w.heap.size+1+1+1) 4 1 v k (rdV (its.take k))/\wr.heap[w.heap.size]?=some (.cells (madeCells jY (n*9)) 110 (0,0))/\wr.heap[w.heap.size+1]?=some (.cells (madeCells #[.int .i64 0] its.length) 3 (0,0))/\Below w.heap.size w wr) (fun a _=>its.length-(intOf a).toNat)
  case atStart=>exact ⟨0,.slice none 0 0,by omega,rfl,HT.out.1.2.2,⟨by simp[rdV],Or.inl ⟨rfl,rfl⟩⟩,HT.out.1.1,HT.out.1.2.1,HT.out.2⟩
  case round =>
   obtain ⟨k,v,hk,rfl,hroot,hown,hg1,hg3,hbe⟩:=hrel
   have HR:=hide hroot
   have HO:=hide hown
   have H1:=hide hg1
   have H3:=hide hg3
   have HB:=hide hbe
   clear hroot hown hg1 hg3 hbe
   by_cases hlt:k<its.length
   ·obtain ⟨gi,rfl,hgi⟩:=HIT.out (by omega)
    have gil:=hgi.lt
    have Ul:gi<wr.heap.size:=Nat.lt_of_lt_of_le gil HB.out.size
    have hbl:w.heap.size+1+1<wr.heap.size:=bB HR.out
    have HGI:=hide (hgi.below HB.out)
    have HTK:=hide (EL its k hlt)
    have i1:wr.cell? ⟨gi,k*2,none⟩=some (.bool (isH its k)):=by rw[HGI.out.cell (k*2) (by omega)];simp[itF]
    have i2:∀o,(wr.alloc o).cell? ⟨gi,k*2,none⟩=some (.bool (isH its k)):=fun o=>by rw[(HGI.out.alloc o).cell (k*2) (by omega)];simp[itF]
    generalize isH its k=x at *
    have c2:wr.cell? ⟨w.heap.size+1+1,2,none⟩=some v:=aj HR.out rfl
    have c3:∀o,(wr.alloc o).cell? ⟨w.heap.size+1+1,2,none⟩=some v:=fun o=>aj ((heap_alloc_old _ _ hbl).trans HR.out) rfl
    have hcs:its.length<=ci/\ci<=2 ^ 63-1:=HCI.out
    have HU:Hid (∀(w1:World),(wr.alloc (.cells #[.bool (!x)] 4)).drew.grownBy w1 v.ownBlock->(w1.heap[w.heap.size+1+1]?=some (.cells #[.slice (some ⟨gi,0,none⟩) its.length ci,.slice (some ⟨w.heap.size,0,none⟩) n n,v,.slice (some ⟨w.heap.size+1,0,none⟩) its.length its.length] 104 (0,0))/\w1.heap[w.heap.size]?=some (.cells (madeCells jY (n*9)) 110 (0,0))/\w1.heap[w.heap.size+1]?=some (.cells (madeCells #[.int .i64 0] its.length) 3 (0,0))/\Below w.heap.size w w1)):=by
     apply hide
     intro w1 hg
     have q1:v.ownBlock≠some (w.heap.size+1+1):=fun e=>by have:=(HO.out.lt _ e).1;omega
     have q2:v.ownBlock≠some (w.heap.size):=fun e=>by have:=(HO.out.lt _ e).1;omega
     have q3:v.ownBlock≠some (w.heap.size+1):=fun e=>by have:=(HO.out.lt _ e).1;omega
     refine ⟨?_,?_,?_,?_⟩
     ·rw[hg.block _ (by simp;omega) (Ne.symm q1),heap_drew,heap_alloc_old _ _ (by omega)];exact HR.out
     ·rw[hg.block _ (by simp;omega) (Ne.symm q2),heap_drew,heap_alloc_old _ _ (by omega)];exact H1.out
     ·rw[hg.block _ (by simp;omega) (Ne.symm q3),heap_drew,heap_alloc_old _ _ (by omega)];exact H3.out
     ·exact ((HB.out.alloc (by omega) _).drew).grown hg (by simp;omega) (fun k hk=>by have:=(HO.out.lt k hk).1;omega)
    go_wp2_with fail
    go_region_law ((refine step_append_lies _ (by rfl) _ _ _ (by rfl) (w.heap.size+1+1+1) 4 i0 _ 1 1 Tryz.underlying102 hi0 hz0 hz1 hz2 rfl (by omega) v k (rdV (its.take k)) (by rfl) ((HO.out.alloc _).drew) ⟨wr.heap.size,0,none⟩ 1 1 [.bool (!x)] (by rfl) (by rfl) (cell_one_new _ _ _) (by simp[Value.oneCell']) (by omega) (by unfold maxLen;omega) (by omega) (by simp;omega) (wr.heap.size+1) (by simp) ?_;intro gg cap w1 hown1 hgrow hat hlt;have k0:w1.cell? ⟨w.heap.size+1+1,2,none⟩=some v:=aj (HU.out w1 hgrow).1 rfl;have e0:=frozen_of_row _ (w.heap.size+1+1) 2 _ _ (HU.out w1 hgrow).1;have HG:=hide hgrow;have HW:=hide hown1;clear hgrow hown1 hat hlt))
    all_goals go_wp2
    all_goals exact ⟨⟨k+1,.slice (some ⟨gg,0,none⟩) (k+1) cap,by omega,by go_num,heap_setCell_same _ _ _ _ _ _ (HU.out w1 HG.out).1,by rw[HTK.out];exact ownsRow_setCell_below HW.out (by simp) _,by rw[heap_setCell_other _ _ _ _ (by show _≠_;simp only;omega)];exact (HU.out _ HG.out).2.1,by rw[heap_setCell_other _ _ _ _ (by show _≠_;simp only;omega)];exact (HU.out _ HG.out).2.2.1,(HU.out _ HG.out).2.2.2.setCell (p:=⟨w.heap.size+1+1,2,none⟩) (by show _<=_;simp only;omega) _⟩,by simp[intOf];omega⟩
   ·have ek:k=its.length:=by omega
    subst ek
    rw[List.take_length] at HO
    obtain ⟨A,e1,e2,e3,hm⟩:=DM.beg hn hl HCI.out HIT.out HR.out HO.out H1.out H3.out HB.out (by omega) (by omega) (by omega) (by omega) (by omega)
    have HMM:=hide hm
    have E1:=hide e1
    have E2:=hide e2
    have E3:=hide e3
    clear hm e1 e2 e3
    go_wp2
    go_ret
    exact ⟨_,A,rfl,E1.out,E2.out,E3.out,HMM.out,HB.out⟩
 ·have HT:=hide (Cw w (.cells (madeCells #[.int .i64 0] its.length) 3) (.cells (madeCells jY (n*9)) 110) (.cells #[.slice ai its.length ci,.slice (some ⟨w.heap.size+1,0,none⟩) n n,.slice none 0 0,.slice (some ⟨w.heap.size,0,none⟩) its.length its.length] 104))
  clear GD GH
  generalize (((w.alloc (.cells (madeCells #[.int .i64 0] its.length) 3)).alloc (.cells (madeCells jY (n*9)) 110)).alloc (.cells #[.slice ai its.length ci,.slice (some ⟨w.heap.size+1,0,none⟩) n n,.slice none 0 0,.slice (some ⟨w.heap.size,0,none⟩) its.length its.length] 104)).drew=W at *
  go_wp2
  go_loopw [6] (fun a wr=>∃(k:Nat) (v:Value),k<=its.length/\a=.int .i64 k/\wr.heap[w.heap.size+1+1]?=some (.cells #[.slice ai its.length ci,.slice (some ⟨w.heap.size+1,0,none⟩) n n,v,.slice (some ⟨w.heap.size,0,none⟩) its.length its.length] 104 (0,0))/\wr.ownsRow (w.heap.size+1+1+1) 4 1 v k (rdV (its.take k))/\wr.heap[w.heap.size+1]?=some (.cells (madeCells jY (n*9)) 110 (0,0))/\wr.heap[w.heap.size]?=some (.cells (madeCells #[.int .i64 0] its.length) 3 (0,0))/\Below w.heap.size w wr) (fun a _=>its.length-(intOf a).toNat)
  case atStart=>exact ⟨0,.slice none 0 0,by omega,rfl,HT.out.1.2.2,⟨by simp[rdV],Or.inl ⟨rfl,rfl⟩⟩,HT.out.1.2.1,HT.out.1.1,HT.out.2⟩
  case round =>
   obtain ⟨k,v,hk,rfl,hroot,hown,hg1,hg3,hbe⟩:=hrel
   have HR:=hide hroot
   have HO:=hide hown
   have H1:=hide hg1
   have H3:=hide hg3
   have HB:=hide hbe
   clear hroot hown hg1 hg3 hbe
   by_cases hlt:k<its.length
   ·obtain ⟨gi,rfl,hgi⟩:=HIT.out (by omega)
    have gil:=hgi.lt
    have Ul:gi<wr.heap.size:=Nat.lt_of_lt_of_le gil HB.out.size
    have hbl:w.heap.size+1+1<wr.heap.size:=bB HR.out
    have HGI:=hide (hgi.below HB.out)
    have HTK:=hide (EL its k hlt)
    have i1:wr.cell? ⟨gi,k*2,none⟩=some (.bool (isH its k)):=by rw[HGI.out.cell (k*2) (by omega)];simp[itF]
    have i2:∀o,(wr.alloc o).cell? ⟨gi,k*2,none⟩=some (.bool (isH its k)):=fun o=>by rw[(HGI.out.alloc o).cell (k*2) (by omega)];simp[itF]
    generalize isH its k=x at *
    have c2:wr.cell? ⟨w.heap.size+1+1,2,none⟩=some v:=aj HR.out rfl
    have c3:∀o,(wr.alloc o).cell? ⟨w.heap.size+1+1,2,none⟩=some v:=fun o=>aj ((heap_alloc_old _ _ hbl).trans HR.out) rfl
    have hcs:its.length<=ci/\ci<=2 ^ 63-1:=HCI.out
    have HU:Hid (∀(w1:World),(wr.alloc (.cells #[.bool (!x)] 4)).drew.grownBy w1 v.ownBlock->(w1.heap[w.heap.size+1+1]?=some (.cells #[.slice (some ⟨gi,0,none⟩) its.length ci,.slice (some ⟨w.heap.size+1,0,none⟩) n n,v,.slice (some ⟨w.heap.size,0,none⟩) its.length its.length] 104 (0,0))/\w1.heap[w.heap.size+1]?=some (.cells (madeCells jY (n*9)) 110 (0,0))/\w1.heap[w.heap.size]?=some (.cells (madeCells #[.int .i64 0] its.length) 3 (0,0))/\Below w.heap.size w w1)):=by
     apply hide
     intro w1 hg
     have q1:v.ownBlock≠some (w.heap.size+1+1):=fun e=>by have:=(HO.out.lt _ e).1;omega
     have q2:v.ownBlock≠some (w.heap.size+1):=fun e=>by have:=(HO.out.lt _ e).1;omega
     have q3:v.ownBlock≠some (w.heap.size):=fun e=>by have:=(HO.out.lt _ e).1;omega
     refine ⟨?_,?_,?_,?_⟩
     ·rw[hg.block _ (by simp;omega) (Ne.symm q1),heap_drew,heap_alloc_old _ _ (by omega)];exact HR.out
     ·rw[hg.block _ (by simp;omega) (Ne.symm q2),heap_drew,heap_alloc_old _ _ (by omega)];exact H1.out
     ·rw[hg.block _ (by simp;omega) (Ne.symm q3),heap_drew,heap_alloc_old _ _ (by omega)];exact H3.out
     ·exact ((HB.out.alloc (by omega) _).drew).grown hg (by simp;omega) (fun k hk=>by have:=(HO.out.lt k hk).1;omega)
    go_wp2_with fail
    go_region_law ((refine step_append_lies _ (by rfl) _ _ _ (by rfl) (w.heap.size+1+1+1) 4 i0 _ 1 1 Tryz.underlying102 hi0 hz0 hz1 hz2 rfl (by omega) v k (rdV (its.take k)) (by rfl) ((HO.out.alloc _).drew) ⟨wr.heap.size,0,none⟩ 1 1 [.bool (!x)] (by rfl) (by rfl) (cell_one_new _ _ _) (by simp[Value.oneCell']) (by omega) (by unfold maxLen;omega) (by omega) (by simp;omega) (wr.heap.size+1) (by simp) ?_;intro gg cap w1 hown1 hgrow hat hlt;have k0:w1.cell? ⟨w.heap.size+1+1,2,none⟩=some v:=aj (HU.out w1 hgrow).1 rfl;have e0:=frozen_of_row _ (w.heap.size+1+1) 2 _ _ (HU.out w1 hgrow).1;have HG:=hide hgrow;have HW:=hide hown1;clear hgrow hown1 hat hlt))
    all_goals go_wp2
    all_goals exact ⟨⟨k+1,.slice (some ⟨gg,0,none⟩) (k+1) cap,by omega,by go_num,heap_setCell_same _ _ _ _ _ _ (HU.out w1 HG.out).1,by rw[HTK.out];exact ownsRow_setCell_below HW.out (by simp) _,by rw[heap_setCell_other _ _ _ _ (by show _≠_;simp only;omega)];exact (HU.out _ HG.out).2.1,by rw[heap_setCell_other _ _ _ _ (by show _≠_;simp only;omega)];exact (HU.out _ HG.out).2.2.1,(HU.out _ HG.out).2.2.2.setCell (p:=⟨w.heap.size+1+1,2,none⟩) (by show _<=_;simp only;omega) _⟩,by simp[intOf];omega⟩
   ·have ek:k=its.length:=by omega
    subst ek
    rw[List.take_length] at HO
    obtain ⟨A,e1,e2,e3,hm⟩:=DM.beg hn hl HCI.out HIT.out HR.out HO.out H1.out H3.out HB.out (by omega) (by omega) (by omega) (by omega) (by omega)
    have HMM:=hide hm
    have E1:=hide e1
    have E2:=hide e2
    have E3:=hide e3
    clear hm e1 e2 e3
    go_wp2
    go_ret
    exact ⟨_,A,rfl,E1.out,E2.out,E3.out,HMM.out,HB.out⟩
end
section
open Mc
namespace Mc
open Wd
theorem Dq (l:List UInt8):(bX l).1=jc l:=by
 rw[<-pY];unfold jQ jc
 cases aF l<;>rfl
end Mc
theorem Cx (s:ByteArray)(au:Int)(t:ByteArray)(w:World)(hs:s.size<=maxLen)(ht:t.size<=maxLen)(hc0:-9223372036854775808<=au)(hc1:au<=9223372036854775807) :
  Calls Tryz.prog 37 #[.string s,.int .i64 au,.string t] w fun e w'=>e=.returned (.int .i64 (refuses s.data.toList au t.data.toList))/\Below w.heap.size w w':=by
 have HX:=hide (fun w=>uL s w hs)
 unfold maxLen at hs ht
 rw[Dq] at HX
 by_cases h1:240<s.size
 ·have e:refuses s.data.toList au t.data.toList=1:=by unfold refuses;rw[if_pos (Or.inl (by rw[Wd.aI];exact h1))]
  rw[e]
  clear e
  go_enter Tryz.func37,Tryz.ntmps37
  go_wp2
  go_ret
  exact ⟨rfl,Below.refl _ _⟩
 by_cases h2:200000<t.size
 ·have e:refuses s.data.toList au t.data.toList=1:=by unfold refuses;rw[if_pos (Or.inr (by rw[Wd.aI];exact h2))]
  rw[e]
  clear e
  go_enter Tryz.func37,Tryz.ntmps37
  go_wp2
  go_ret
  exact ⟨rfl,Below.refl _ _⟩
 have e1:refuses s.data.toList au t.data.toList=if jc s.data.toList≠0 then jc s.data.toList else if au<1\/3<au then 6 else if aX au t.data.toList=false then 7 else 0:=by
  unfold refuses;rw[if_neg (by rw[Wd.aI,Wd.aI];omega)]
 rw[e1]
 clear e1
 by_cases h3:jc s.data.toList≠0
 ·rw[if_pos h3]
  have t3:(jc s.data.toList != 0)=true:=by simp[h3]
  clear h3
  generalize jc s.data.toList=er at *
  generalize (Wd.bX s.data.toList).2=e2 at *
  go_enter Tryz.func37,Tryz.ntmps37
  go_wp2_with (first|(go_at_call 12;refine (HX.out _).mono ?_;rintro e w1 ⟨rfl,hb1⟩))
  go_ret
  exact ⟨rfl,hb1⟩
 rw[if_neg h3]
 have h3:jc s.data.toList=0:=by simpa using h3
 rw[h3] at HX
 clear h3
 generalize (Wd.bX s.data.toList).2=e2 at *
 by_cases h4:au<1\/3<au
 ·rw[if_pos h4]
  rcases h4 with h4|h4
  ·go_enter Tryz.func37,Tryz.ntmps37
   go_wp2_with (first|(go_at_call 12;refine (HX.out _).mono ?_;rintro e w1 ⟨rfl,hb1⟩))
   all_goals first|(exfalso;omega)|(go_ret;exact ⟨rfl,hb1⟩)
  ·go_enter Tryz.func37,Tryz.ntmps37
   go_wp2_with (first|(go_at_call 12;refine (HX.out _).mono ?_;rintro e w1 ⟨rfl,hb1⟩))
   all_goals first|(exfalso;omega)|(go_ret;exact ⟨rfl,hb1⟩)
 rw[if_neg h4]
 obtain ⟨n,rfl⟩:∃n:Nat,au=n:=⟨au.toNat,by omega⟩
 have HS:=hide (fun w=>Dp t n w (by omega) (by omega))
 cases h5:aX n t.data.toList
 ·rw[h5] at HS
  rw[if_pos rfl]
  clear h5
  go_enter Tryz.func37,Tryz.ntmps37
  go_wp2_with (first|(go_at_call 12;refine (HX.out _).mono ?_;rintro e w1 ⟨rfl,hb1⟩)|(go_at_call 48;refine (HS.out _).mono ?_;rintro e w' ⟨rfl,rfl⟩))
  all_goals first|(exfalso;omega)|(go_ret;exact ⟨rfl,hb1⟩)
 ·rw[h5] at HS
  rw[if_neg (by simp)]
  clear h5
  go_enter Tryz.func37,Tryz.ntmps37
  go_wp2_with (first|(go_at_call 12;refine (HX.out _).mono ?_;rintro e w1 ⟨rfl,hb1⟩)|(go_at_call 48;refine (HS.out _).mono ?_;rintro e w' ⟨rfl,rfl⟩))
  all_goals first|(exfalso;omega)|(go_ret;exact ⟨rfl,hb1⟩)
end
section
open Mc
structure Ad.lt (A:Ad)(m b B:Nat):Prop where
 b:b<B
 g1:A.g1<B
 g3:A.g3<B
 ai:0<m->∀g,A.ai=some ⟨g,0,none⟩->g<B
 a2:∀g,A.a2=some ⟨g,0,none⟩->g<B
theorem DM.keep {w w':World}{N b B:Nat}{A:Ad}{its:List Wd.It}{n:Nat}{S:Ma}(h:DM w N b A its n S)(hA:A.lt its.length b B)(hs:∀k,k<B->w'.heap[k]?=w.heap[k]?):DM w' N b A its n S :=
 ⟨h.root.same (hs b hA.b),fun hl=>(h.items hl).imp fun g hg=>⟨hg.1,hg.2.1.same (hs g (hA.ai hl g hg.1)),hg.2.2⟩,h.au.same (hs _ hA.g1),fun hl=>(h.ready hl).imp fun g hg=>⟨hg.1,hg.2.1.same (hs g (hA.a2 g hg.1)),hg.2.2⟩,h.at_.same (hs _ hA.g3),h.ne,h.caps,h.a2⟩
theorem Ta {w w':World}{m b B:Nat}{A:Ad}{e:TypeId}{size:Nat}{v:Value}{n:Nat}{xs:List Value}(h:w.ownsRow B e size v n xs)(hA:A.lt m b B)(hk:Kp A w w'):w'.ownsRow B e size v n xs :=
 fO h fun g hg hl=>hk.same g hl (fun e=>by have:=hA.g1;omega) (fun e=>by have:=hA.g3;omega) (fun e=>by have:=hA.a2 g e;omega)
theorem Dr {w w':World}{m b B:Nat}{A:Ad}{e:TypeId}{size n:Nat}{v:Value}{xs:List Value}{o:Obj}(hA:A.lt m b B)(ho:w.ownsRow B e size v n xs)(hB:B<=w.heap.size)(hg:(w.alloc o).grownBy w' v.ownBlock):(∀j,j<B->w'.heap[j]?=w.heap[j]?)/\(w.alloc o).grownBy w' v.ownBlock:=by
 refine ⟨fun j hj=>?_,hg⟩
 rw[hg.block j (by simp;omega) (fun e=>by have:=(ho.lt j e.symm).1;omega),heap_alloc_old _ _ (by omega)]
theorem Tc (s:ByteArray)(au:Int)(t:ByteArray)(w:World)(hs:s.size<=maxLen)(ht:t.size<=maxLen)(hc0:-9223372036854775808<=au)(hc1:au<=9223372036854775807)(hr:refuses s.data.toList au t.data.toList≠0) :
  Calls Tryz.prog 17 #[.string s,.int .i64 au,.string t] w fun e w'=>e=.returned (.tuple #[.string (Wd.mkS []),.int .i64 (refuses s.data.toList au t.data.toList)])/\Below w.heap.size w w':=by
 have AR:=hide (fun w=>Cx s au t w hs ht hc0 hc1)
 have t1:(refuses s.data.toList au t.data.toList != 0)=true:=by simp[hr]
 clear hr
 generalize refuses s.data.toList au t.data.toList=r at *
 go_enter Tryz.func17,Tryz.ntmps17
 go_wp2_with (first|(go_at_call 37;refine (AR.out _).mono ?_;rintro e w1 ⟨rfl,hb1⟩))
 go_ret2
 exact ⟨rfl,hb1⟩
theorem RB (s:ByteArray)(n:Nat)(t:ByteArray)(w:World)(its:List Wd.It)(hs:s.size<=240)(ht:t.size<=200000)(hn:n<=3)(hr:refuses s.data.toList n t.data.toList=0)(hread:Wd.aF s.data.toList=.ok its)(hsc:aX n t.data.toList=true) :
  Calls Tryz.prog 17 #[.string s,.int .i64 n,.string t] w fun e w'=>e=.returned (.tuple #[.string (Wd.mkS (cB its n (aM its) t.data.toList)),.int .i64 0])/\Below w.heap.size w w':=by
 have AR:=hide (fun w=>Cx s n t w (by unfold maxLen;omega) (by unfold maxLen;omega) (by omega) (by omega))
 rw[hr] at AR
 obtain ⟨g1,g2,g3,g4⟩:=Wd.yc hread
 have hok:(Wd.bX s.data.toList).1=0:=by rw[Dq,jc,hread]
 have AU:=fun w=>xC s w hs hok g4
 rw[<-g2] at AU
 have HAU:=hide AU
 have HF:=hide (jP hread)
 have hl8:=HF.out.len
 clear AU hok g1 g2 g3 g4 hr hread
 go_enter Tryz.func17,Tryz.ntmps17
 go_wp2_with (first|(go_at_call 37;refine (AR.out _).mono ?_;rintro e w1 ⟨rfl,hb1⟩))
 go_at_call 13
 refine (HAU.out _).mono ?_
 rintro e w2 ⟨v,rfl,hown,hb2⟩
 obtain ⟨ai,ci,rfl,sK,sM,hit⟩:=yG hown
 have AB:=hide (Eh w2 its n ai ci hn (by omega) ⟨sK,sM⟩ hit)
 have HB2:=hide (ak hb1 hb2)
 clear hown hit hb1 hb2
 go_wp2_with (first|(go_at_call 38;refine AB.out.mono ?_;rintro e w3 ⟨b,A,rfl,e1,e2,e3,hm3,hb3⟩))
 have HB3:=hide (ak HB2.out hb3)
 have hN2:w.heap.size<=w2.heap.size:=HB2.out.size
 have HAL:Hid (A.lt its.length b w3.heap.size):=hide ⟨hm3.root.lt,hm3.au.lt,hm3.at_.lt,fun h g e=>by obtain ⟨g',k1,k2,_⟩:=hm3.items h;rw[k1] at e;cases e;exact k2.lt,e3⟩
 have HM3:=hide hm3
 have HAN:Hid (w2.heap.size<=w3.heap.size/\True):=hide ⟨hb3.size,trivial⟩
 have GI:w.heap.size<=w3.heap.size:=HB3.out.size
 clear hm3 hb3 e1 e2 e3 AB HB2
 generalize hT:cB its n (aM its) t.data.toList=T at *
 have HT:=hide hT
 clear hT
 obtain ⟨i0,hi0,hz0,hz1,hz2⟩:=info_parts Tryz.infoU8
 have HSC:=hide hsc
 clear hsc
 generalize hBB:w3.heap.size=B at *
 have HBB:=hide hBB
 clear hBB
 go_loopw [12,13] (fun a c wr=>∃(k:Nat) (acc:List UInt8) (S:Ma),k<=t.size/\c=.int .i64 k/\acc.length<=k/\wr.ownsRow B 5 1 a acc.length (Wd.aZ acc)/\DM wr w2.heap.size b A its n S/\Mc.Inv its n S/\aX n (t.data.toList.drop k)=true/\T=acc++cB its n S (t.data.toList.drop k)/\Below w.heap.size w wr/\B<=wr.heap.size) (fun _ c _=>t.size-(intOf c).toNat)
 case atStart=>exact ⟨0,[],aM its,by omega,rfl,by simp,World.ownsRow_nil _ _ _ _,HM3.out,Inv.aM its n,HSC.out,by rw[<-HT.out];rfl,HB3.out,by rw[HBB.out];exact Nat.le_refl _⟩
 case round =>
  obtain ⟨k,acc,S,hk,rfl,hacc,hown,hm,hinv,nP,htr,hbe,hbs⟩:=hrel
  have HO:=hide hown
  have HM:=hide hm
  have HI:=hide hinv
  have HSR:=hide nP
  have HTR:=hide htr
  have HB:=hide hbe
  clear hown hm hinv nP htr hbe HM3 HB3 HSC HBB
  by_cases hlt:k+1<t.size
  ·obtain ⟨q1,q2,q3,q4⟩:=yF hlt HSR.out
   have HQ4:=hide q4
   have hcl:=qX its S n (((t[k].toNat:Nat):Int)-48).toNat ((t[k+1].toNat:Nat):Int)
   have hbo:(0:Int)<=((t[k+1].toNat:Nat):Int)/\((t[k+1].toNat:Nat):Int)<=255:=by have:=t[k+1].toNat_lt;omega
   have hba:((t[k].toNat:Nat):Int)<=255:=by have:=t[k].toNat_lt;omega
   have hcast:((((t[k].toNat:Nat):Int)-48).toNat:Int)=((t[k].toNat:Nat):Int)-48:=by omega
   have HIN:=hide (HI.out.command HF.out.ok (((t[k].toNat:Nat):Int)-48).toNat (by omega) ((t[k+1].toNat:Nat):Int))
   have AC:=hide (fun W (hW:DM W w2.heap.size b A its n S)=>Cv W w2.heap.size b A its n S (((t[k].toNat:Nat):Int)-48).toNat ((t[k+1].toNat:Nat):Int) hW HF.out.ok HI.out hn (by omega) hbo.1 hbo.2 q3)
   simp only[hcast] at AC
   have HTC:=hide (Ct its n S t k hlt)
   have hw8:IntKind.u8.wrap (((t[k].toNat:Nat):Int)-48)=((t[k].toNat:Nat):Int)-48:=by rw[IntKind.wrap_u8];omega
   have hw64:IntKind.i64.wrap (((t[k].toNat:Nat):Int)-48)=((t[k].toNat:Nat):Int)-48:=by rw[IntKind.wrap_i64];omega
   have hwk:IntKind.i64.wrap ((k:Int)+1)=(k:Int)+1:=by rw[IntKind.wrap_i64];omega
   have hk1:(0:Int)<=(k:Int)+1:=by omega
   have hk2:(k:Int)+1<(t.size:Int):=by omega
   have hk3:(k:Int)<(t.size:Int):=by omega
   clear hcast q4
   generalize command its S n (((t[k].toNat:Nat):Int)-48).toNat ((t[k+1].toNat:Nat):Int)=R at *
   obtain ⟨L,S'⟩:=R
   simp only at hcl HIN HTC AC
   go_wp2_with fail
   go_region_held3 (fun _=>True) (trivial) (first|(go_at_call 39;refine (AC.out _ HM.out.drew).mono ?_;rintro e w4 ⟨rfl,hm4,hk4⟩))
   all_goals (
    have HM4:=hide hm4
    have HK4:=hide ((Kp.refl A wr).drew.trans hk4)
    have HO4:=hide (Ta HO.out HAL.out HK4.out)
    have HB4:=hide (HB.out.trans (Kp.dm HM.out HK4.out (Nat.le_trans HAN.out.1 hbs) |>.mono hN2))
    have hs4:B<=w4.heap.size:=Nat.le_trans hbs HK4.out.size
    clear hm4 hk4 AC
    have AB:=hide (fun W=>Fs L W hcl.1 hcl.2)
    cases hbad:bad L
    ·rw[hbad] at AB
     have HTN:Hid (T=(acc++[u8 L])++cB its n S' (t.data.toList.drop (k+2))):=by apply hide;rw[HTR.out,HTC.out,hbad];simp
     go_wp2_with (first|(at_builtin;refine wpList_append_own _ rfl _ _ 63 rfl B 5 i0 (.int .u8 0) 1 1 Tryz.underlying63 hi0 hz0 hz1 hz2 rfl (by decide) _ _ _ rfl (HO4.out.alloc _) ⟨_,0,none⟩ 1 1 [.int .u8 L] rfl rfl (cell_one_new _ _ _) (fun x hx=>by simp at hx;subst hx;rfl) (by unfold maxLen;omega) (by omega) (by simp;omega) ?_;intro v' w5 hown' dI fU;have HG:=hide dI;have HW:=hide (vw hcl.1 hcl.2 hown');have hcv:=om HW.out;clear dI hown' fU)|(go_at_call 40;refine (AB.out _).mono ?_;rintro e w' ⟨rfl,hww⟩;obtain rfl:=hww.symm;clear hww))
     have HU:=hide (Dr HAL.out HO4.out hs4 HG.out)
     refine ⟨⟨k+2,acc++[u8 L],S',by omega,by go_num,by simp;omega,HW.out,HM4.out.keep HAL.out (fun j hj=>(HU.out.1 j hj)),HIN.out,HQ4.out,HTN.out,HB4.out.trans ((ko HU.out.2 HO4.out).mono (by omega)),by have:=HU.out.2.size;simp at this;omega⟩,by simp[intOf];omega⟩
    ·rw[hbad] at AB
     have HTN:Hid (T=acc++[u8 L]):=by apply hide;rw[HTR.out,HTC.out,hbad];simp
     go_wp2_with (first|(at_builtin;refine wpList_append_own _ rfl _ _ 63 rfl B 5 i0 (.int .u8 0) 1 1 Tryz.underlying63 hi0 hz0 hz1 hz2 rfl (by decide) _ _ _ rfl (HO4.out.alloc _) ⟨_,0,none⟩ 1 1 [.int .u8 L] rfl rfl (cell_one_new _ _ _) (fun x hx=>by simp at hx;subst hx;rfl) (by unfold maxLen;omega) (by omega) (by simp;omega) ?_;intro v' w5 hown' dI fU;have HG:=hide dI;have HW:=hide (vw hcl.1 hcl.2 hown');have hcv:=om HW.out;clear dI hown' fU)|(go_at_call 40;refine (AB.out _).mono ?_;rintro e w' ⟨rfl,hww⟩;obtain rfl:=hww.symm;clear hww))
     go_ret2
     have HU:=hide (Dr HAL.out HO4.out hs4 HG.out)
     exact ⟨by rw[HT.out,HTN.out];rfl,HB4.out.trans ((ko HU.out.2 HO4.out).mono (by omega))⟩)
  ·have hcv:=om HO.out
   have HTN:Hid (T=acc):=by apply hide;rw[HTR.out,Dn its n S t k hlt];simp
   go_wp2
   go_ret2
   exact ⟨by rw[HT.out,HTN.out];rfl,HB.out⟩
theorem Mh (s:ByteArray)(au:Int)(t:ByteArray)(w:World)(hs:s.size<=maxLen)(ht:t.size<=maxLen)(hc0:-9223372036854775808<=au)(hc1:au<=9223372036854775807) :
  Calls Tryz.prog 17 #[.string s,.int .i64 au,.string t] w fun e w'=>e=.returned (.tuple #[.string (Wd.mkS (eO s.data.toList au t.data.toList).1),.int .i64 (eO s.data.toList au t.data.toList).2])/\Below w.heap.size w w':=by
 by_cases h:refuses s.data.toList au t.data.toList=0
 ·obtain ⟨h1,h2,h3,h4,h5,its,h6⟩:=Jv h
  obtain ⟨n,rfl⟩:∃n:Nat,au=n:=⟨au.toNat,by omega⟩
  have e:eO s.data.toList n t.data.toList=(cB its n (aM its) t.data.toList,0):=by
   unfold eO;rw[if_neg (by simpa using h),h6];rfl
  rw[e]
  rw[Wd.aI] at h1 h2
  exact RB s n t w its h1 h2 (by omega) h h6 h5
 ·have e:eO s.data.toList au t.data.toList=([],refuses s.data.toList au t.data.toList):=by
   unfold eO;rw[if_pos h]
  rw[e]
  exact Tc s au t w hs ht hc0 hc1 h
end
end Go.Proofs.YtecmfdkhcffpmaaGreat
