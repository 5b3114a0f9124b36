/- MacQ, RefJ. -/
import Derived.Test.YtecmfdkhcffpmaaB23
import Derived.Laws.MakeOwn
import Derived.Deep.AppendLies
import Derived.Deep.RegionLaw
import Derived.Test.YtecmfdkhcffpmaaB27
import Derived.Test.YtecmfdkhcffpmaaB25
import Derived.Test.YtecmfdkhcffpmaaB10
/- Contracts of the document's machine: its beginning. -/
namespace Go.Proofs.Ytecmfdkhcffpmaa
open Go.RowKit
set_option linter.unusedSimpArgs false
set_option linter.unusedVariables false
set_option maxHeartbeats 8000000
open Mc

def zCpu : Array Value := #[.bool false, .int .i64 0, .int .i64 0, .int .i64 0, .bool false, .int .i64 0, .int .i64 0, .int .i64 0, .bool false]
theorem Try.infoCpu : (Try.prog.info? 133).map (fun i => (i.zero, i.size, i.bytes)) = some (some (.agg #[.bool false, .int .i64 0, .int .i64 0, .int .i64 0, .bool false, .int .i64 0, .int .i64 0, .int .i64 0, .bool false]), 9, 72) := by kernel_rfl
theorem Try.infoInt : (Try.prog.info? 3).map (fun i => (i.zero, i.size, i.bytes)) = some (some (.int .i64 0), 1, 8) := by kernel_rfl
theorem Try.infoBool : (Try.prog.info? 4).map (fun i => (i.zero, i.size, i.bytes)) = some (some (.bool false), 1, 1) := by kernel_rfl
theorem mk_cpus (w : World) (n : Nat) (hn : n ≤ 1000) : (Instr.makeSlice 124 (.int .i64 n) (.int .i64 n)).run Try.prog w = .ok (.slice (some ⟨w.heap.size, 0, none⟩) n n) (w.alloc (.cells (madeCells zCpu (n * 9)) 133)) := by
  obtain ⟨i, h1, h2, h3, h4⟩ := info_parts Try.infoCpu
  have := run_make w 124 133 i _ Try.underlying124 h1 h2 .i64 .i64 n n (by omega) (by omega) (by rw [h4]; omega) (by omega)
  rw [this, h3]; simp [Value.cells, zCpu]
theorem mk_ints (w : World) (n : Nat) (hn : n ≤ 1000) : (Instr.makeSlice 64 (.int .i64 n) (.int .i64 n)).run Try.prog w = .ok (.slice (some ⟨w.heap.size, 0, none⟩) n n) (w.alloc (.cells (madeCells #[.int .i64 0] n) 3)) := by
  obtain ⟨i, h1, h2, h3, h4⟩ := info_parts Try.infoInt
  have := run_make w 64 3 i _ Try.underlying64 h1 h2 .i64 .i64 n n (by omega) (by omega) (by rw [h4]; omega) (by omega)
  rw [this, h3]; simp [Value.cells]
theorem madeCells_at (z : Array Value) (m i : Nat) (h : i < m) : (madeCells z m)[i]? = some (z[i % z.size]!) := by simp [madeCells, h]
theorem three_alloc (w : World) (a c d : Obj) : ((((w.alloc a).alloc c).alloc d).drew.heap[w.heap.size]? = some a ∧ (((w.alloc a).alloc c).alloc d).drew.heap[w.heap.size + 1]? = some c ∧ (((w.alloc a).alloc c).alloc d).drew.heap[w.heap.size + 1 + 1]? = some d) ∧ Below w.heap.size w (((w.alloc a).alloc c).alloc d).drew := by
  refine ⟨⟨?_, ?_, ?_⟩, ((((Below.refl _ _).alloc (Nat.le_refl _) _).alloc (by simp) _).alloc (by simp; omega) _).drew⟩
  · show (((w.heap.push a).push c).push d)[w.heap.size]? = some a
    rw [Array.getElem?_push, if_neg (by simp; omega), Array.getElem?_push, if_neg (by simp), Array.getElem?_push, if_pos rfl]
  · show (((w.heap.push a).push c).push d)[w.heap.size + 1]? = some c
    rw [Array.getElem?_push, if_neg (by simp), Array.getElem?_push, if_pos (by simp)]
  · show (((w.heap.push a).push c).push d)[w.heap.size + 1 + 1]? = some d
    rw [Array.getElem?_push, if_pos (by simp)]
/-- Which of the items are ready in the beginning. -/
def rdV (its : List Wd.It) : List Value := its.map fun x => .bool (!x.handler)
theorem rdV_len (its : List Wd.It) : (rdV its).length = its.length := by simp [rdV]
theorem rdV_take (its : List Wd.It) (k : Nat) (h : k < its.length) : rdV (its.take (k + 1)) = rdV (its.take k) ++ [.bool (!isH its k)] := by
  have e : isH its k = its[k].handler := by simp [isH, List.getD, h]
  rw [rdV, rdV, List.take_succ_eq_append_getElem h, List.map_append, e]; rfl
/-- The machine's picture in the beginning. -/
theorem DM.beg {w W : World} {its : List Wd.It} {n : Nat} {ai : Option Addr} {ci b g1 g3 : Nat} {v : Value} (hn : n ≤ 3) (hl : its.length ≤ 240) (hci : its.length ≤ ci ∧ ci ≤ maxLen) (hit : 0 < its.length → ∃ g, ai = some ⟨g, 0, none⟩ ∧ Blk w g (its.length * 2) (itF its))
    (hr : W.heap[b]? = some (.cells #[.slice ai its.length ci, .slice (some ⟨g1, 0, none⟩) n n, v, .slice (some ⟨g3, 0, none⟩) its.length its.length] 127 (0, 0)))
    (ho : W.ownsRow (b + 1) 4 1 v its.length (rdV its)) (h1 : W.heap[g1]? = some (.cells (madeCells zCpu (n * 9)) 133 (0, 0))) (h3 : W.heap[g3]? = some (.cells (madeCells #[.int .i64 0] its.length) 3 (0, 0))) (hb : Below w.heap.size w W)
    (l1 : w.heap.size ≤ g1) (l3 : w.heap.size ≤ g3) (e13 : g1 ≠ g3) (l1b : g1 < b) (l3b : g3 < b) :
    ∃ A, A.ai = ai ∧ A.ci = ci ∧ (∀ g, A.a2 = some ⟨g, 0, none⟩ → g < W.heap.size) ∧ DM W w.heap.size b A its n (begin_ its) := by
  obtain ⟨hlen, hv⟩ := ho
  have hcp : Blk W g1 (n * 9) (cpsF (begin_ its)) := by
    refine ⟨_, _, h1, fun i hi => ?_⟩
    rw [madeCells_at _ _ _ hi]
    have hm : i % 9 < 9 := Nat.mod_lt _ (by omega)
    show some (zCpu[i % 9]!) = some (cpF noCp (i % 9))
    generalize i % 9 = m at *
    rcases m with _ | _ | _ | _ | _ | _ | _ | _ | _ | m <;> first | rfl | omega
  have hat : Blk W g3 its.length (fun i => .int .i64 ((begin_ its).pl i : Int)) := by
    refine ⟨_, _, h3, fun i hi => ?_⟩
    rw [madeCells_at _ _ _ hi]
    show some ((#[Value.int .i64 0])[i % 1]!) = _
    rw [Nat.mod_one]; rfl
  have hitems : 0 < its.length → ∃ g, ai = some ⟨g, 0, none⟩ ∧ Blk W g (its.length * 2) (itF its) ∧ g ≠ b ∧ g ≠ g1 ∧ g ≠ g3 := fun h => by
    obtain ⟨g, e, hg⟩ := hit h
    have := hg.lt
    exact ⟨g, e, hg.below hb, by omega, by omega, by omega⟩
  have m1 : b ≠ g1 := by omega
  have m2 : b ≠ g3 := by omega
  have m4 : w.heap.size ≤ b := by omega
  have k0 : 0 ≤ maxLen := Nat.zero_le _
  have k1 : n ≤ maxLen := by unfold maxLen; omega
  have k3 : its.length ≤ maxLen := by unfold maxLen; omega
  rcases hv with ⟨rfl, h0⟩ | ⟨g, cap, cur, rfl, hbase, hg, hc1, hc2, hcs, hct⟩
  · refine ⟨⟨ai, ci, g1, n, none, 0, g3, its.length⟩, rfl, rfl, (fun g e => by cases e), ⟨⟨_, _, hr, fun i hi => ?_⟩, hitems, hcp, fun h => absurd h (by omega), hat, ⟨m1, m2, e13, m4, l1, l3⟩, ⟨hci.1, hci.2, Nat.le_refl _, k1, Nat.le_of_eq h0, k0, Nat.le_refl _, k3⟩, ⟨by simp, by simp, by simp, by simp⟩⟩⟩
    rcases i with _ | _ | _ | _ | i <;> first | rfl | (simp [h0]; done) | omega
  · have p1 : g ≠ b := by omega
    have p2 : g ≠ g1 := by omega
    have p3 : g ≠ g3 := by omega
    have p4 : w.heap.size ≤ g := by omega
    refine ⟨⟨ai, ci, g1, n, some ⟨g, 0, none⟩, cap, g3, its.length⟩, rfl, rfl, (fun g' e => by cases e; exact row_lt hg), ⟨⟨_, _, hr, fun i hi => ?_⟩, hitems, hcp, fun h => ⟨g, rfl, ⟨_, _, hg, fun i hi => ?_⟩, p1, p2, p3, p4, fun e => ?_⟩, hat, ⟨m1, m2, e13, m4, l1, l3⟩, ⟨hci.1, hci.2, Nat.le_refl _, k1, hc1, hc2, Nat.le_refl _, k3⟩, ⟨fun e => p1 (congrArg Addr.block (Option.some.inj e)), fun e => p2 (congrArg Addr.block (Option.some.inj e)), fun e => p3 (congrArg Addr.block (Option.some.inj e)), fun g' e => by cases e; exact p4⟩⟩⟩
    · rcases i with _ | _ | _ | _ | i <;> first | rfl | omega
    · have e : cur.toList[i]? = (rdV its)[i]? := by rw [← hct, List.getElem?_take, if_pos (by omega)]
      rw [← Array.getElem?_toList, e]
      simp [rdV, begin_, isH, List.getD, hi]
    · obtain ⟨g', e', hg'⟩ := hit h
      have := hg'.lt
      simp only at e
      rw [e'] at e; cases e; omega

set_option maxRecDepth 100000 in
theorem begin_any (w : World) (its : List Wd.It) (n : Nat) (ai : Option Addr) (ci : Nat) (hn : n ≤ 3) (hl : its.length ≤ 240) (hci : its.length ≤ ci ∧ ci ≤ maxLen) (hit : 0 < its.length → ∃ g, ai = some ⟨g, 0, none⟩ ∧ Blk w g (its.length * 2) (itF its)) :
    Calls Try.prog 55 #[.slice ai its.length ci, .int .i64 n] w fun e w' => ∃ b A, e = .returned (.pointer (some ⟨b, 0, none⟩)) ∧ A.ai = ai ∧ A.ci = ci ∧ (∀ g, A.a2 = some ⟨g, 0, none⟩ → g < w'.heap.size) ∧ DM w' w.heap.size b A its n (begin_ its) ∧ Below w.heap.size w w' := by
  have hmk1 := fun W => mk_cpus W n (by omega)
  have hmk2 := fun W => mk_ints W its.length (by omega)
  obtain ⟨i0, hi0, hz0, hz1, hz2⟩ := info_parts Try.infoBool
  have HIT := hide hit
  have HCI := hide hci
  clear hit hci
  go_enter Try.func55, Try.ntmps55
  go_wp2_with fail
  go_region
  · have HT := hide (three_alloc w (.cells (madeCells zCpu (n * 9)) 133) (.cells (madeCells #[.int .i64 0] its.length) 3) (.cells #[.slice ai its.length ci, .slice (some ⟨w.heap.size, 0, none⟩) n n, .slice none 0 0, .slice (some ⟨w.heap.size + 1, 0, none⟩) its.length its.length] 127))
    clear hmk1 hmk2
    generalize (((w.alloc (.cells (madeCells zCpu (n * 9)) 133)).alloc (.cells (madeCells #[.int .i64 0] its.length) 3)).alloc (.cells #[.slice ai its.length ci, .slice (some ⟨w.heap.size, 0, none⟩) n n, .slice none 0 0, .slice (some ⟨w.heap.size + 1, 0, none⟩) its.length its.length] 127)).drew = W at *
    go_wp2
    go_loopw [6] (fun a wr => ∃ (k : Nat) (v : Value), k ≤ its.length ∧ a = .int .i64 k ∧ wr.heap[w.heap.size + 1 + 1]? = some (.cells #[.slice ai its.length ci, .slice (some ⟨w.heap.size, 0, none⟩) n n, v, .slice (some ⟨w.heap.size + 1, 0, none⟩) its.length its.length] 127 (0, 0)) ∧ wr.ownsRow (w.heap.size + 1 + 1 + 1) 4 1 v k (rdV (its.take k)) ∧ wr.heap[w.heap.size]? = some (.cells (madeCells zCpu (n * 9)) 133 (0, 0)) ∧ wr.heap[w.heap.size + 1]? = some (.cells (madeCells #[.int .i64 0] its.length) 3 (0, 0)) ∧ Below w.heap.size w wr) (fun a _ => its.length - (intOf a).toNat)
    case atStart => exact ⟨0, .slice none 0 0, by omega, rfl, HT.out.1.2.2, ⟨by simp [rdV], Or.inl ⟨rfl, rfl⟩⟩, HT.out.1.1, HT.out.1.2.1, HT.out.2⟩
    case round =>
      obtain ⟨k, v, hk, rfl, hroot, hown, hg1, hg3, hbe⟩ := hrel
      have HR := hide hroot
      have HO := hide hown
      have H1 := hide hg1
      have H3 := hide hg3
      have HB := hide hbe
      clear hroot hown hg1 hg3 hbe
      by_cases hlt : k < its.length
      · obtain ⟨gi, rfl, hgi⟩ := HIT.out (by omega)
        have gil := hgi.lt
        have gil2 : gi < wr.heap.size := Nat.lt_of_lt_of_le gil HB.out.size
        have hbl : w.heap.size + 1 + 1 < wr.heap.size := row_lt HR.out
        have HGI := hide (hgi.below HB.out)
        have HTK := hide (rdV_take its k hlt)
        have i1 : wr.cell? ⟨gi, k * 2, none⟩ = some (.bool (isH its k)) := by rw [HGI.out.cell (k * 2) (by omega)]; simp [itF]
        have i2 : ∀ o, (wr.alloc o).cell? ⟨gi, k * 2, none⟩ = some (.bool (isH its k)) := fun o => by rw [(HGI.out.alloc o).cell (k * 2) (by omega)]; simp [itF]
        generalize isH its k = x at *
        have c2 : wr.cell? ⟨w.heap.size + 1 + 1, 2, none⟩ = some v := row_cell HR.out rfl
        have c3 : ∀ o, (wr.alloc o).cell? ⟨w.heap.size + 1 + 1, 2, none⟩ = some v := fun o => row_cell ((heap_alloc_old _ _ hbl).trans HR.out) rfl
        have hcs : its.length ≤ ci ∧ ci ≤ 2 ^ 63 - 1 := HCI.out
        have HU : Hid (∀ (w1 : World), (wr.alloc (.cells #[.bool (!x)] 4)).drew.grownBy w1 v.ownBlock → (w1.heap[w.heap.size + 1 + 1]? = some (.cells #[.slice (some ⟨gi, 0, none⟩) its.length ci, .slice (some ⟨w.heap.size, 0, none⟩) n n, v, .slice (some ⟨w.heap.size + 1, 0, none⟩) its.length its.length] 127 (0, 0)) ∧ w1.heap[w.heap.size]? = some (.cells (madeCells zCpu (n * 9)) 133 (0, 0)) ∧ w1.heap[w.heap.size + 1]? = some (.cells (madeCells #[.int .i64 0] its.length) 3 (0, 0)) ∧ Below w.heap.size w w1)) := by
          apply hide
          intro w1 hg
          have q1 : v.ownBlock ≠ some (w.heap.size + 1 + 1) := fun e => by have := (HO.out.lt _ e).1; omega
          have q2 : v.ownBlock ≠ some (w.heap.size) := fun e => by have := (HO.out.lt _ e).1; omega
          have q3 : v.ownBlock ≠ some (w.heap.size + 1) := fun e => by have := (HO.out.lt _ e).1; omega
          refine ⟨?_, ?_, ?_, ?_⟩
          · rw [hg.block _ (by simp; omega) (Ne.symm q1), heap_drew, heap_alloc_old _ _ (by omega)]; exact HR.out
          · rw [hg.block _ (by simp; omega) (Ne.symm q2), heap_drew, heap_alloc_old _ _ (by omega)]; exact H1.out
          · rw [hg.block _ (by simp; omega) (Ne.symm q3), heap_drew, heap_alloc_old _ _ (by omega)]; exact H3.out
          · exact ((HB.out.alloc (by omega) _).drew).grown hg (by simp; omega) (fun k hk => by have := (HO.out.lt k hk).1; omega)
        go_wp2_with fail
        go_region_law ((refine step_append_lies _ (by rfl) _ _ _ (by rfl) (w.heap.size + 1 + 1 + 1) 4 i0 _ 1 1 Try.underlying125 hi0 hz0 hz1 hz2 rfl (by omega) v k (rdV (its.take k)) (by rfl) ((HO.out.alloc _).drew) ⟨wr.heap.size, 0, none⟩ 1 1 [.bool (!x)] (by rfl) (by rfl) (cell_one_new _ _ _) (by simp [Value.oneCell']) (by omega) (by unfold maxLen; omega) (by omega) (by simp; omega) (wr.heap.size + 1) (by simp) ?_; intro gg cap w1 hown1 hgrow hat hlt; have k0 : w1.cell? ⟨w.heap.size + 1 + 1, 2, none⟩ = some v := row_cell (HU.out w1 hgrow).1 rfl; have e0 := frozen_of_row _ (w.heap.size + 1 + 1) 2 _ _ (HU.out w1 hgrow).1; have HG := hide hgrow; have HW := hide hown1; clear hgrow hown1 hat hlt))
        all_goals go_wp2
        all_goals exact ⟨⟨k + 1, .slice (some ⟨gg, 0, none⟩) (k + 1) cap, by omega, by go_num, heap_setCell_same _ _ _ _ _ _ (HU.out w1 HG.out).1, by rw [HTK.out]; exact ownsRow_setCell_below HW.out (by simp) _, by rw [heap_setCell_other _ _ _ _ (by show _ ≠ _; simp only; omega)]; exact (HU.out _ HG.out).2.1, by rw [heap_setCell_other _ _ _ _ (by show _ ≠ _; simp only; omega)]; exact (HU.out _ HG.out).2.2.1, (HU.out _ HG.out).2.2.2.setCell (p := ⟨w.heap.size + 1 + 1, 2, none⟩) (by show _ ≤ _; simp only; omega) _⟩, by simp [intOf]; omega⟩
      · have ek : k = its.length := by omega
        subst ek
        rw [List.take_length] at HO
        obtain ⟨A, e1, e2, e3, hm⟩ := DM.beg hn hl HCI.out HIT.out HR.out HO.out H1.out H3.out HB.out (by omega) (by omega) (by omega) (by omega) (by omega)
        have HMM := hide hm
        have E1 := hide e1
        have E2 := hide e2
        have E3 := hide e3
        clear hm e1 e2 e3
        go_wp2
        go_ret
        exact ⟨_, A, rfl, E1.out, E2.out, E3.out, HMM.out, HB.out⟩
  · have HT := hide (three_alloc w (.cells (madeCells #[.int .i64 0] its.length) 3) (.cells (madeCells zCpu (n * 9)) 133) (.cells #[.slice ai its.length ci, .slice (some ⟨w.heap.size + 1, 0, none⟩) n n, .slice none 0 0, .slice (some ⟨w.heap.size, 0, none⟩) its.length its.length] 127))
    clear hmk1 hmk2
    generalize (((w.alloc (.cells (madeCells #[.int .i64 0] its.length) 3)).alloc (.cells (madeCells zCpu (n * 9)) 133)).alloc (.cells #[.slice ai its.length ci, .slice (some ⟨w.heap.size + 1, 0, none⟩) n n, .slice none 0 0, .slice (some ⟨w.heap.size, 0, none⟩) its.length its.length] 127)).drew = W at *
    go_wp2
    go_loopw [6] (fun a wr => ∃ (k : Nat) (v : Value), k ≤ its.length ∧ a = .int .i64 k ∧ wr.heap[w.heap.size + 1 + 1]? = some (.cells #[.slice ai its.length ci, .slice (some ⟨w.heap.size + 1, 0, none⟩) n n, v, .slice (some ⟨w.heap.size, 0, none⟩) its.length its.length] 127 (0, 0)) ∧ wr.ownsRow (w.heap.size + 1 + 1 + 1) 4 1 v k (rdV (its.take k)) ∧ wr.heap[w.heap.size + 1]? = some (.cells (madeCells zCpu (n * 9)) 133 (0, 0)) ∧ wr.heap[w.heap.size]? = some (.cells (madeCells #[.int .i64 0] its.length) 3 (0, 0)) ∧ Below w.heap.size w wr) (fun a _ => its.length - (intOf a).toNat)
    case atStart => exact ⟨0, .slice none 0 0, by omega, rfl, HT.out.1.2.2, ⟨by simp [rdV], Or.inl ⟨rfl, rfl⟩⟩, HT.out.1.2.1, HT.out.1.1, HT.out.2⟩
    case round =>
      obtain ⟨k, v, hk, rfl, hroot, hown, hg1, hg3, hbe⟩ := hrel
      have HR := hide hroot
      have HO := hide hown
      have H1 := hide hg1
      have H3 := hide hg3
      have HB := hide hbe
      clear hroot hown hg1 hg3 hbe
      by_cases hlt : k < its.length
      · obtain ⟨gi, rfl, hgi⟩ := HIT.out (by omega)
        have gil := hgi.lt
        have gil2 : gi < wr.heap.size := Nat.lt_of_lt_of_le gil HB.out.size
        have hbl : w.heap.size + 1 + 1 < wr.heap.size := row_lt HR.out
        have HGI := hide (hgi.below HB.out)
        have HTK := hide (rdV_take its k hlt)
        have i1 : wr.cell? ⟨gi, k * 2, none⟩ = some (.bool (isH its k)) := by rw [HGI.out.cell (k * 2) (by omega)]; simp [itF]
        have i2 : ∀ o, (wr.alloc o).cell? ⟨gi, k * 2, none⟩ = some (.bool (isH its k)) := fun o => by rw [(HGI.out.alloc o).cell (k * 2) (by omega)]; simp [itF]
        generalize isH its k = x at *
        have c2 : wr.cell? ⟨w.heap.size + 1 + 1, 2, none⟩ = some v := row_cell HR.out rfl
        have c3 : ∀ o, (wr.alloc o).cell? ⟨w.heap.size + 1 + 1, 2, none⟩ = some v := fun o => row_cell ((heap_alloc_old _ _ hbl).trans HR.out) rfl
        have hcs : its.length ≤ ci ∧ ci ≤ 2 ^ 63 - 1 := HCI.out
        have HU : Hid (∀ (w1 : World), (wr.alloc (.cells #[.bool (!x)] 4)).drew.grownBy w1 v.ownBlock → (w1.heap[w.heap.size + 1 + 1]? = some (.cells #[.slice (some ⟨gi, 0, none⟩) its.length ci, .slice (some ⟨w.heap.size + 1, 0, none⟩) n n, v, .slice (some ⟨w.heap.size, 0, none⟩) its.length its.length] 127 (0, 0)) ∧ w1.heap[w.heap.size + 1]? = some (.cells (madeCells zCpu (n * 9)) 133 (0, 0)) ∧ w1.heap[w.heap.size]? = some (.cells (madeCells #[.int .i64 0] its.length) 3 (0, 0)) ∧ Below w.heap.size w w1)) := by
          apply hide
          intro w1 hg
          have q1 : v.ownBlock ≠ some (w.heap.size + 1 + 1) := fun e => by have := (HO.out.lt _ e).1; omega
          have q2 : v.ownBlock ≠ some (w.heap.size + 1) := fun e => by have := (HO.out.lt _ e).1; omega
          have q3 : v.ownBlock ≠ some (w.heap.size) := fun e => by have := (HO.out.lt _ e).1; omega
          refine ⟨?_, ?_, ?_, ?_⟩
          · rw [hg.block _ (by simp; omega) (Ne.symm q1), heap_drew, heap_alloc_old _ _ (by omega)]; exact HR.out
          · rw [hg.block _ (by simp; omega) (Ne.symm q2), heap_drew, heap_alloc_old _ _ (by omega)]; exact H1.out
          · rw [hg.block _ (by simp; omega) (Ne.symm q3), heap_drew, heap_alloc_old _ _ (by omega)]; exact H3.out
          · exact ((HB.out.alloc (by omega) _).drew).grown hg (by simp; omega) (fun k hk => by have := (HO.out.lt k hk).1; omega)
        go_wp2_with fail
        go_region_law ((refine step_append_lies _ (by rfl) _ _ _ (by rfl) (w.heap.size + 1 + 1 + 1) 4 i0 _ 1 1 Try.underlying125 hi0 hz0 hz1 hz2 rfl (by omega) v k (rdV (its.take k)) (by rfl) ((HO.out.alloc _).drew) ⟨wr.heap.size, 0, none⟩ 1 1 [.bool (!x)] (by rfl) (by rfl) (cell_one_new _ _ _) (by simp [Value.oneCell']) (by omega) (by unfold maxLen; omega) (by omega) (by simp; omega) (wr.heap.size + 1) (by simp) ?_; intro gg cap w1 hown1 hgrow hat hlt; have k0 : w1.cell? ⟨w.heap.size + 1 + 1, 2, none⟩ = some v := row_cell (HU.out w1 hgrow).1 rfl; have e0 := frozen_of_row _ (w.heap.size + 1 + 1) 2 _ _ (HU.out w1 hgrow).1; have HG := hide hgrow; have HW := hide hown1; clear hgrow hown1 hat hlt))
        all_goals go_wp2
        all_goals exact ⟨⟨k + 1, .slice (some ⟨gg, 0, none⟩) (k + 1) cap, by omega, by go_num, heap_setCell_same _ _ _ _ _ _ (HU.out w1 HG.out).1, by rw [HTK.out]; exact ownsRow_setCell_below HW.out (by simp) _, by rw [heap_setCell_other _ _ _ _ (by show _ ≠ _; simp only; omega)]; exact (HU.out _ HG.out).2.1, by rw [heap_setCell_other _ _ _ _ (by show _ ≠ _; simp only; omega)]; exact (HU.out _ HG.out).2.2.1, (HU.out _ HG.out).2.2.2.setCell (p := ⟨w.heap.size + 1 + 1, 2, none⟩) (by show _ ≤ _; simp only; omega) _⟩, by simp [intOf]; omega⟩
      · have ek : k = its.length := by omega
        subst ek
        rw [List.take_length] at HO
        obtain ⟨A, e1, e2, e3, hm⟩ := DM.beg hn hl HCI.out HIT.out HR.out HO.out H1.out H3.out HB.out (by omega) (by omega) (by omega) (by omega) (by omega)
        have HMM := hide hm
        have E1 := hide e1
        have E2 := hide e2
        have E3 := hide e3
        clear hm e1 e2 e3
        go_wp2
        go_ret
        exact ⟨_, A, rfl, E1.out, E2.out, E3.out, HMM.out, HB.out⟩
end Go.Proofs.Ytecmfdkhcffpmaa
/- Contract of the document's 'unfolded'. -/
namespace Go.Proofs.Ytecmfdkhcffpmaa
open Go.RowKit
set_option linter.unusedSimpArgs false
set_option linter.unusedVariables false
set_option maxHeartbeats 800000

set_option maxRecDepth 100000 in
set_option maxHeartbeats 2000000 in
theorem unfolded_any (s t : ByteArray) (of : Nat → Int) (w : World) (hs : s.size ≤ 10000) (ho : ∀ j, 0 ≤ of j ∧ of j ≤ 301) (hH : ∀ c : Int, Wd.up c = true → 0 < of (c - 65).toNat → ∃ i, Wd.head s.data.toList c = some i) (hB : ∀ p, p ≤ 8 → (Wd.passN s.data.toList of t.data.toList p).length ≤ 100000) :
    Calls Try.prog 51 #[.string s, .string t, .agg (Wd.arr8 of)] w fun e w' => ∃ u : ByteArray, e = .returned (.string u) ∧ u.data.toList = Wd.passN s.data.toList of t.data.toList 8 ∧ Below w.heap.size w w' := by
  have HO := hide ho
  have HH := hide hH
  have HB := hide hB
  clear ho hH hB
  unfold Wd.arr8
  go_enter Try.func51, Try.ntmps51
  go_wp2
  have hN := heap_alloc_last w (.cells (Wd.arr8 of) 75)
  have hbe0 : Below w.heap.size w (w.alloc (.cells (Wd.arr8 of) 75)) := (Below.refl _ _).alloc (Nat.le_refl _) _
  rw [show (w.alloc (.cells #[.int .i64 (of 0), .int .i64 (of 1), .int .i64 (of 2), .int .i64 (of 3), .int .i64 (of 4), .int .i64 (of 5), .int .i64 (of 6), .int .i64 (of 7)] 75)) = w.alloc (.cells (Wd.arr8 of) 75) from rfl]
  generalize w.alloc (.cells (Wd.arr8 of) 75) = W at *
  have HN := hide hN
  have HB0 := hide hbe0
  clear hN hbe0
  go_loop [1, 7] (fun a b => ∃ (k : Nat) (u : ByteArray), k ≤ 8 ∧ b = .int .i64 k ∧ a = .string u ∧ u.data.toList = Wd.passN s.data.toList of t.data.toList k) (fun _ b => 8 - (intOf b).toNat)
  case atStart => exact ⟨0, t, by omega, rfl, rfl, rfl⟩
  case round =>
    obtain ⟨k, u, hk, rfl, rfl, hu⟩ := hrel
    have HU := hide hu
    clear hu
    by_cases hlt : k < 8
    · have hus : u.size ≤ 100000 := by rw [← Wd.len_str, HU.out]; exact HB.out k hk
      have hps : (Wd.pass s.data.toList of u.data.toList).length ≤ 100000 := by
        have := HB.out (k + 1) (by omega)
        rw [Wd.passN, ← HU.out] at this; exact this
      go_wp2_with fail
      go_loop [8, 9] (fun a b => ∃ (i : Nat) (o : ByteArray), i ≤ u.size ∧ b = .int .i64 i ∧ a = .string o ∧ o.data.toList = Wd.pass s.data.toList of (u.data.toList.take i)) (fun _ b => u.size - (intOf b).toNat)
      case atStart => exact ⟨0, ⟨#[]⟩, Nat.zero_le _, rfl, rfl, rfl⟩
      case round =>
        obtain ⟨i, o, hi, rfl, rfl, ho⟩ := hrel
        have HOO := hide ho
        have hos : o.size ≤ 100000 := by
          rw [← Wd.len_str, HOO.out]
          have := Wd.pass_take s.data.toList of u.data.toList i
          omega
        clear ho
        by_cases hil : i < u.size
        · have HS := hide (Wd.pass_snoc s.data.toList of u i hil)
          have b0 := Wd.at_lo u.data.toList i
          have b1 := Wd.at_hi u.data.toList i
          rw [← Wd.at_str u i hil] at b0 b1
          cases hup : Wd.up ((u[i].toNat : Nat) : Int)
          · have HC : Hid (Wd.passC s.data.toList of u[i] = [u[i]]) := by
              have : Wd.up (Wd.bt u[i]) = false := hup
              simp [Hid, Wd.passC, this]
            go_wp2_with (go_at_call 73; refine (upper_any _ _ b0 b1).mono ?_; rw [hup]; rintro e w' ⟨rfl, rfl⟩)
            refine ⟨⟨i + 1, _, by omega, by go_num, rfl, ?_⟩, by simp [intOf]; omega⟩
            rw [HS.out, HC.out, ← HOO.out]
            simp only [ByteArray.data_append, Array.toList_append, Wd.extract_str]
            congr 1
            rw [Nat.add_sub_cancel_left, Wd.drop_cons u i hil]; rfl
          · have hu' := hup
            simp [Wd.up] at hu'
            have HUP : Hid (Wd.up (Wd.bt u[i]) = true) := hup
            have hidx : Hid ((Wd.bt u[i] - 65).toNat = u[i].toNat - 65) := by apply hide; unfold Wd.bt; omega
            have ho' := HO.out (u[i].toNat - 65)
            have c1 := row_cell HN.out (Wd.arr8_at of (u[i].toNat - 65) (by omega))
            by_cases hg : 0 < of (u[i].toNat - 65)
            · obtain ⟨h, hh⟩ := HH.out ((u[i].toNat : Nat) : Int) hup (by rw [show (((u[i].toNat : Nat) : Int) - 65).toNat = u[i].toNat - 65 from by omega]; exact hg)
              have hhs : h + 2 ≤ s.size := by have := (Wd.head_some hh).1; rw [Wd.len_str] at this; omega
              have HC : Hid (Wd.passC s.data.toList of u[i] = Wd.body s.data.toList h) := by
                have e1 : Wd.head s.data.toList (Wd.bt u[i]) = some h := hh
                simp [Hid, Wd.passC, HUP.out, hidx.out, hg, e1]
              have HHD : Hid (Wd.toInt (Wd.head s.data.toList ((u[i].toNat : Nat) : Int)) = (h : Int)) := by rw [hh]; rfl
              have HLB : Hid (Wd.pass s.data.toList of (u.data.toList.take (i + 1)) = Wd.pass s.data.toList of (u.data.toList.take i) ++ Wd.body s.data.toList h) := by rw [HS.out, HC.out]; rfl
              have hlb : o.size + (Wd.body s.data.toList h).length ≤ 100000 := by
                rw [← Wd.len_str, HOO.out, ← List.length_append, ← HLB.out]
                have := Wd.pass_take s.data.toList of u.data.toList (i + 1)
                omega
              clear hh
              go_wp2_with (first | (go_at_call 73; refine (upper_any _ _ b0 b1).mono ?_; rw [hup]; rintro e w' ⟨rfl, rfl⟩) | (go_at_call 77; refine (head_any _ _ _ (by omega) b0 b1).mono ?_; rw [HHD.out]; rintro e w' ⟨rfl, rfl⟩) | (go_at_call 49; refine (body_any s h _ (by omega) hhs).mono ?_; rintro e w' ⟨tt, rfl, htt, htts, rfl⟩; have htl : tt.size = (Wd.body s.data.toList h).length := by rw [← Wd.len_str, htt]))
              refine ⟨⟨i + 1, _, by omega, by go_num, rfl, ?_⟩, by simp [intOf]; omega⟩
              rw [HLB.out, ← HOO.out, ← htt]
              simp
            · have HC : Hid (Wd.passC s.data.toList of u[i] = []) := by
                simp [Hid, Wd.passC, HUP.out, hidx.out, hg]
              go_wp2_with (first | (go_at_call 73; refine (upper_any _ _ b0 b1).mono ?_; rw [hup]; rintro e w' ⟨rfl, rfl⟩))
              refine ⟨⟨i + 1, o, by omega, by go_num, rfl, ?_⟩, by simp [intOf]; omega⟩
              rw [HS.out, HC.out, ← HOO.out]; simp
        · go_wp2
          refine ⟨⟨k + 1, o, by omega, by go_num, rfl, ?_⟩, by simp [intOf]; omega⟩
          rw [HOO.out, Wd.passN, ← HU.out, List.take_of_length_le (by rw [Wd.len_str]; omega)]
    · go_wp2
      go_ret
      obtain rfl : k = 8 := by omega
      exact ⟨u, rfl, HU.out, HB0.out⟩
end Go.Proofs.Ytecmfdkhcffpmaa
