/- RunK, MacP, MacQ. -/
import Derived.Test.YtecmfdkhcffpmaaB18
import Derived.Test.YtecmfdkhcffpmaaB24
import Derived.Test.YtecmfdkhcffpmaaB05
import Derived.Laws.BytesArg
import Derived.Laws.IdiomStrings
import Derived.Test.YtecmfdkhcffpmaaB13
import Derived.Laws.MakeOwn
import Derived.Deep.AppendLies
import Derived.Deep.RegionLaw
import Derived.Test.YtecmfdkhcffpmaaB17
/- What Run answers, plain; what both machines' traces need. -/
namespace Go.Proofs.Ytecmfdkhcffpmaa
open Go.RowKit
set_option linter.unusedSimpArgs false
set_option linter.unusedVariables false
set_option maxHeartbeats 8000000
open Mc
theorem conv_own {w : World} {base : Nat} {v : Value} {l : List UInt8} (h : w.ownsRow base 5 1 v l.length (Wd.bytesV l)) : (convert 83 9 v).run Try.prog w = .ok (.string (Wd.mkS l)) w := by
  rcases h.2 with ⟨rfl, h0⟩ | ⟨g, cap, cur, rfl, _⟩
  · rw [run_convert_bytes_nil w 83 5 Try.underlying83 Try.underlying5 0 0 9 Try.underlying9, List.eq_nil_of_length_eq_zero h0]; rfl
  · exact run_convert_bytes_back (P := Try.prog) w 83 9 5 ⟨g, 0, none⟩ cap l Try.underlying83 Try.underlying5 Try.underlying9 (own_bytes h)
theorem scriptB_two (n : Int) (s : ByteArray) (k : Nat) (h : k + 1 < s.size) : scriptB n (s.data.toList.drop k) = (decide (48 ≤ ((s[k].toNat : Nat) : Int)) && decide (((s[k].toNat : Nat) : Int) - 48 < n) && isOrd ((s[k + 1].toNat : Nat) : Int) && scriptB n (s.data.toList.drop (k + 2))) := by
  rw [Wd.drop_cons s k (by omega), Wd.drop_cons s (k + 1) h]; rfl
theorem scriptB_end (n : Int) (s : ByteArray) (k : Nat) (h : s.size ≤ k) : scriptB n (s.data.toList.drop k) = true := by
  rw [List.drop_of_length_le (by rw [Wd.len_str]; exact h)]; rfl
theorem script_at {n : Int} {s : ByteArray} {k : Nat} (h : k + 1 < s.size) (hb : scriptB n (s.data.toList.drop k) = true) : 48 ≤ ((s[k].toNat : Nat) : Int) ∧ ((s[k].toNat : Nat) : Int) - 48 < n ∧ isOrd ((s[k + 1].toNat : Nat) : Int) = true ∧ scriptB n (s.data.toList.drop (k + 2)) = true := by
  rw [scriptB_two n s k h] at hb
  simp only [Bool.and_eq_true, decide_eq_true_eq] at hb
  exact ⟨hb.1.1.1, hb.1.1.2, hb.1.2, hb.2⟩
theorem Try.infoU8 : (Try.prog.info? 5).map (fun i => (i.zero, i.size, i.bytes)) = some (some (.int .u8 0), 1, 1) := by kernel_rfl
theorem itsV_at (its : List Wd.It) (i : Nat) (hi : i < its.length * 2) : (Wd.itsV its)[i]? = some (itF its i) := by
  induction its generalizing i with
  | nil => simp at hi
  | cons x r ih =>
    have e : Wd.itsV (x :: r) = .bool x.handler :: .string (Wd.mkS x.body) :: Wd.itsV r := rfl
    rw [e]
    match i, hi with
    | 0, _ => rfl
    | 1, _ => rfl
    | i + 2, hi =>
      rw [List.getElem?_cons_succ, List.getElem?_cons_succ, ih i (by simp at hi; omega)]
      unfold itF
      rw [show (i + 2) % 2 = i % 2 by omega, show (i + 2) / 2 = i / 2 + 1 by omega]
      rfl
theorem own_items {w : World} {base : Nat} {v : Value} {its : List Wd.It} (h : w.ownsRow base 31 2 v its.length (Wd.itsV its)) : ∃ ai ci, v = .slice ai its.length ci ∧ its.length ≤ ci ∧ ci ≤ maxLen ∧ (0 < its.length → ∃ g, ai = some ⟨g, 0, none⟩ ∧ Blk w g (its.length * 2) (itF its)) := by
  rcases h.2 with ⟨rfl, h0⟩ | ⟨g, cap, cur, rfl, hb, hg, h1, h2, h3, h4⟩
  · exact ⟨none, 0, by rw [h0], by omega, Nat.zero_le _, fun h => by omega⟩
  · refine ⟨some ⟨g, 0, none⟩, cap, rfl, h1, h2, fun _ => ⟨g, rfl, ⟨_, _, hg, fun i hi => ?_⟩⟩⟩
    rw [← itsV_at its i hi, ← h4, List.getElem?_take, if_pos hi, Array.getElem?_toList]
theorem grown_min {w w' : World} {B : Nat} {e : TypeId} {size n : Nat} {v : Value} {xs : List Value} {o : Obj} (hg : (w.alloc o).grownBy w' v.ownBlock) (ho : w.ownsRow B e size v n xs) : Below (min B w.heap.size) w w' :=
  ((Below.refl _ _).alloc (Nat.min_le_right _ _) o).grown hg (by simp; omega) (fun q hq => Nat.le_trans (Nat.min_le_left _ _) (ho.lt q hq).1)
end Go.Proofs.Ytecmfdkhcffpmaa
/- Contracts of the document's machine: letters that end a trace; scripts. -/
namespace Go.Proofs.Ytecmfdkhcffpmaa
open Go.RowKit
set_option linter.unusedSimpArgs false
set_option linter.unusedVariables false
set_option maxHeartbeats 8000000
open Mc

theorem bad_any (t : Int) (w : World) (h0 : 0 ≤ t) (h1 : t ≤ 255) :
    Calls Try.prog 57 #[.int .u8 t] w fun e w' => e = .returned (.bool (bad t)) ∧ w' = w := by
  by_cases h68 : t = 68
  · subst h68
    go_enter Try.func57, Try.ntmps57
    go_wp2
    go_ret
    exact ⟨rfl, rfl⟩
  have n68 : (t == 68) = false := by simp [h68]
  by_cases h85 : t = 85
  · subst h85
    go_enter Try.func57, Try.ntmps57
    go_wp2
    go_ret
    exact ⟨rfl, rfl⟩
  have n85 : (t == 85) = false := by simp [h85]
  by_cases h83 : t = 83
  · subst h83
    go_enter Try.func57, Try.ntmps57
    go_wp2
    go_ret
    exact ⟨rfl, rfl⟩
  have n83 : (t == 83) = false := by simp [h83]
  by_cases h69 : t = 69
  · subst h69
    go_enter Try.func57, Try.ntmps57
    go_wp2
    go_ret
    exact ⟨rfl, rfl⟩
  have n69 : (t == 69) = false := by simp [h69]
  by_cases h73 : t = 73
  · subst h73
    go_enter Try.func57, Try.ntmps57
    go_wp2
    go_ret
    exact ⟨rfl, rfl⟩
  have n73 : (t == 73) = false := by simp [h73]
  by_cases h87 : t = 87
  · subst h87
    go_enter Try.func57, Try.ntmps57
    go_wp2
    go_ret
    exact ⟨rfl, rfl⟩
  have n87 : (t == 87) = false := by simp [h87]
  by_cases h82 : t = 82
  · subst h82
    go_enter Try.func57, Try.ntmps57
    go_wp2
    go_ret
    exact ⟨rfl, rfl⟩
  have n82 : (t == 82) = false := by simp [h82]
  have e : bad t = false := by simp [bad, n68, n85, n83, n69, n73, n87, n82]
  rw [e]
  clear e h68 h85 h83 h69 h73 h87 h82
  go_enter Try.func57, Try.ntmps57
  go_wp2
  go_ret
  exact ⟨rfl, rfl⟩

theorem scriptB_one (n : Int) (s : ByteArray) (k : Nat) (h : k < s.size) (h2 : ¬ k + 1 < s.size) : scriptB n (s.data.toList.drop k) = false := by
  rw [Wd.drop_cons s k h, List.drop_of_length_le (by rw [Wd.len_str]; omega)]; rfl
theorem script_any (s : ByteArray) (n : Nat) (w : World) (hs : s.size ≤ 1000000) (hn : n ≤ 3) :
    Calls Try.prog 65 #[.string s, .int .i64 n] w fun e w' => e = .returned (.bool (scriptB n s.data.toList)) ∧ w' = w := by
  go_enter Try.func65, Try.ntmps65
  go_wp2
  go_loop [5] (fun a => ∃ k : Nat, k ≤ s.size ∧ a = .int .i64 k ∧ scriptB n s.data.toList = scriptB n (s.data.toList.drop k)) (fun a => s.size - (intOf a).toNat)
  case atStart => exact ⟨0, by omega, rfl, by simp⟩
  case round =>
    obtain ⟨k, hk, rfl, hp⟩ := hrel
    have HP := hide hp
    clear hp
    by_cases hlt : k < s.size
    · by_cases hlt2 : k + 1 < s.size
      · have HS := hide (scriptB_two n s k hlt2)
        have bo : (0 : Int) ≤ ((s[k + 1].toNat : Nat) : Int) ∧ ((s[k + 1].toNat : Nat) : Int) ≤ 255 := by have := s[k + 1].toNat_lt; omega
        have ba : (0 : Int) ≤ ((s[k].toNat : Nat) : Int) ∧ ((s[k].toNat : Nat) : Int) ≤ 255 := by have := s[k].toNat_lt; omega
        by_cases ha : 48 ≤ ((s[k].toNat : Nat) : Int) ∧ ((s[k].toNat : Nat) : Int) - 48 < n
        · have hw8 : IntKind.u8.wrap (((s[k].toNat : Nat) : Int) - 48) = ((s[k].toNat : Nat) : Int) - 48 := by rw [IntKind.wrap_u8]; omega
          cases ho : isOrd ((s[k + 1].toNat : Nat) : Int)
          · have HN : Hid (scriptB n (s.data.toList.drop k) = false) := by apply hide; rw [HS.out, ho]; simp
            have hno : ¬ (((s[k + 1].toNat : Nat) : Int) = 46 ∨ ((s[k + 1].toNat : Nat) : Int) = 44 ∨ ((s[k + 1].toNat : Nat) : Int) = 112 ∨ (48 ≤ ((s[k + 1].toNat : Nat) : Int) ∧ ((s[k + 1].toNat : Nat) : Int) ≤ 55)) := by
              intro h; simp [isOrd] at ho; omega
            have m46 : (((s[k + 1].toNat : Nat) : Int) != 46) = true := by simp; omega
            have m44 : (((s[k + 1].toNat : Nat) : Int) != 44) = true := by simp; omega
            have m112 : (((s[k + 1].toNat : Nat) : Int) != 112) = true := by simp; omega
            clear ho
            by_cases h48 : ((s[k + 1].toNat : Nat) : Int) < 48
            · go_wp2
              all_goals (first | (exfalso; omega) | (go_ret; exact ⟨ret_bool (by rw [HP.out, HN.out]), rfl⟩))
            · have h55 : 55 < ((s[k + 1].toNat : Nat) : Int) := by omega
              go_wp2
              all_goals (first | (exfalso; omega) | (go_ret; exact ⟨ret_bool (by rw [HP.out, HN.out]), rfl⟩))
          · have HN : Hid (scriptB n (s.data.toList.drop k) = scriptB n (s.data.toList.drop (k + 2))) := by apply hide; rw [HS.out, ho]; simp [ha.1, ha.2]
            by_cases h46 : ((s[k + 1].toNat : Nat) : Int) = 46
            · have m46 : (((s[k + 1].toNat : Nat) : Int) != 46) = false := by simp [h46]
              clear ho h46
              go_wp2
              all_goals (first | (exfalso; omega) | skip)
              go_round
              case rel => exact ⟨k + 2, by omega, by go_num, by rw [HP.out, HN.out]⟩
              case measure => simp [intOf] <;> omega
            have m46 : (((s[k + 1].toNat : Nat) : Int) != 46) = true := by simp [h46]
            by_cases h44 : ((s[k + 1].toNat : Nat) : Int) = 44
            · have m44 : (((s[k + 1].toNat : Nat) : Int) != 44) = false := by simp [h44]
              clear ho h46 h44
              go_wp2
              all_goals (first | (exfalso; omega) | skip)
              go_round
              case rel => exact ⟨k + 2, by omega, by go_num, by rw [HP.out, HN.out]⟩
              case measure => simp [intOf] <;> omega
            have m44 : (((s[k + 1].toNat : Nat) : Int) != 44) = true := by simp [h44]
            by_cases h112 : ((s[k + 1].toNat : Nat) : Int) = 112
            · have m112 : (((s[k + 1].toNat : Nat) : Int) != 112) = false := by simp [h112]
              clear ho h46 h44 h112
              go_wp2
              all_goals (first | (exfalso; omega) | skip)
              go_round
              case rel => exact ⟨k + 2, by omega, by go_num, by rw [HP.out, HN.out]⟩
              case measure => simp [intOf] <;> omega
            have m112 : (((s[k + 1].toNat : Nat) : Int) != 112) = true := by simp [h112]
            have h48 : 48 ≤ ((s[k + 1].toNat : Nat) : Int) ∧ ((s[k + 1].toNat : Nat) : Int) ≤ 55 := by
              simp [isOrd] at ho; omega
            clear ho h46 h44 h112
            go_wp2
            all_goals (first | (exfalso; omega) | skip)
            go_round
            case rel => exact ⟨k + 2, by omega, by go_num, by rw [HP.out, HN.out]⟩
            case measure => simp [intOf] <;> omega
        · have HN : Hid (scriptB n (s.data.toList.drop k) = false) := by
            apply hide; rw [HS.out]
            by_cases h1 : 48 ≤ ((s[k].toNat : Nat) : Int)
            · have h2 : ¬ ((s[k].toNat : Nat) : Int) - 48 < n := fun h => ha ⟨h1, h⟩
              simp [h2]
            · simp [h1]
          by_cases h1 : ((s[k].toNat : Nat) : Int) < 48
          · clear ha
            go_wp2
            all_goals (first | (exfalso; omega) | (go_ret; exact ⟨ret_bool (by rw [HP.out, HN.out]), rfl⟩))
          · have hw8 : IntKind.u8.wrap (((s[k].toNat : Nat) : Int) - 48) = ((s[k].toNat : Nat) : Int) - 48 := by rw [IntKind.wrap_u8]; omega
            have h2 : (n : Int) ≤ ((s[k].toNat : Nat) : Int) - 48 := by omega
            clear ha
            go_wp2
            all_goals (first | (exfalso; omega) | (go_ret; exact ⟨ret_bool (by rw [HP.out, HN.out]), rfl⟩))
      · have HN := hide (scriptB_one n s k hlt hlt2)
        go_wp2
        all_goals (first | (exfalso; omega) | (go_ret; exact ⟨ret_bool (by rw [HP.out, HN.out]), rfl⟩))
    · go_wp2
      go_ret
      exact ⟨ret_bool (by rw [HP.out, scriptB_end n s k (by omega)]), rfl⟩
end Go.Proofs.Ytecmfdkhcffpmaa
/- Contracts of the document's machine: its beginning. -/
namespace Go.Proofs.Ytecmfdkhcffpmaa
open Go.RowKit
set_option linter.unusedSimpArgs false
set_option linter.unusedVariables false
set_option maxHeartbeats 8000000
open Mc

def zCpu : Array Value := #[.bool false, .int .i64 0, .int .i64 0, .int .i64 0, .bool false, .int .i64 0, .int .i64 0, .int .i64 0, .bool false]
theorem Try.infoCpu : (Try.prog.info? 133).map (fun i => (i.zero, i.size, i.bytes)) = some (some (.agg #[.bool false, .int .i64 0, .int .i64 0, .int .i64 0, .bool false, .int .i64 0, .int .i64 0, .int .i64 0, .bool false]), 9, 72) := by kernel_rfl
theorem mk_cpus (w : World) (n : Nat) (hn : n ≤ 1000) : (Instr.makeSlice 124 (.int .i64 n) (.int .i64 n)).run Try.prog w = .ok (.slice (some ⟨w.heap.size, 0, none⟩) n n) (w.alloc (.cells (madeCells zCpu (n * 9)) 133)) := by
  obtain ⟨i, h1, h2, h3, h4⟩ := info_parts Try.infoCpu
  have := run_make w 124 133 i _ Try.underlying124 h1 h2 .i64 .i64 n n (by omega) (by omega) (by rw [h4]; omega) (by omega)
  rw [this, h3]; simp [Value.cells, zCpu]
theorem three_alloc (w : World) (a c d : Obj) : ((((w.alloc a).alloc c).alloc d).drew.heap[w.heap.size]? = some a ∧ (((w.alloc a).alloc c).alloc d).drew.heap[w.heap.size + 1]? = some c ∧ (((w.alloc a).alloc c).alloc d).drew.heap[w.heap.size + 1 + 1]? = some d) ∧ Below w.heap.size w (((w.alloc a).alloc c).alloc d).drew := by
  refine ⟨⟨?_, ?_, ?_⟩, ((((Below.refl _ _).alloc (Nat.le_refl _) _).alloc (by simp) _).alloc (by simp; omega) _).drew⟩
  · show (((w.heap.push a).push c).push d)[w.heap.size]? = some a
    rw [Array.getElem?_push, if_neg (by simp; omega), Array.getElem?_push, if_neg (by simp), Array.getElem?_push, if_pos rfl]
  · show (((w.heap.push a).push c).push d)[w.heap.size + 1]? = some c
    rw [Array.getElem?_push, if_neg (by simp), Array.getElem?_push, if_pos (by simp)]
  · show (((w.heap.push a).push c).push d)[w.heap.size + 1 + 1]? = some d
    rw [Array.getElem?_push, if_pos (by simp)]
/-- Which of the items are ready in the beginning. -/
def rdV (its : List Wd.It) : List Value := its.map fun x => .bool (!x.handler)
theorem rdV_take (its : List Wd.It) (k : Nat) (h : k < its.length) : rdV (its.take (k + 1)) = rdV (its.take k) ++ [.bool (!isH its k)] := by
  have e : isH its k = its[k].handler := by simp [isH, List.getD, h]
  rw [rdV, rdV, List.take_succ_eq_append_getElem h, List.map_append, e]; rfl
/-- The machine's picture in the beginning. -/
theorem DM.beg {w W : World} {its : List Wd.It} {n : Nat} {ai : Option Addr} {ci b g1 g3 : Nat} {v : Value} (hn : n ≤ 3) (hl : its.length ≤ 240) (hci : its.length ≤ ci ∧ ci ≤ maxLen) (hit : 0 < its.length → ∃ g, ai = some ⟨g, 0, none⟩ ∧ Blk w g (its.length * 2) (itF its))
    (hr : W.heap[b]? = some (.cells #[.slice ai its.length ci, .slice (some ⟨g1, 0, none⟩) n n, v, .slice (some ⟨g3, 0, none⟩) its.length its.length] 127 (0, 0)))
    (ho : W.ownsRow (b + 1) 4 1 v its.length (rdV its)) (h1 : W.heap[g1]? = some (.cells (madeCells zCpu (n * 9)) 133 (0, 0))) (h3 : W.heap[g3]? = some (.cells (madeCells #[.int .i64 0] its.length) 3 (0, 0))) (hb : Below w.heap.size w W)
    (l1 : w.heap.size ≤ g1) (l3 : w.heap.size ≤ g3) (e13 : g1 ≠ g3) (l1b : g1 < b) (l3b : g3 < b) :
    ∃ A, A.ai = ai ∧ A.ci = ci ∧ (∀ g, A.a2 = some ⟨g, 0, none⟩ → g < W.heap.size) ∧ DM W w.heap.size b A its n (begin_ its) := by
  obtain ⟨hlen, hv⟩ := ho
  have hcp : Blk W g1 (n * 9) (cpsF (begin_ its)) := by
    refine ⟨_, _, h1, fun i hi => ?_⟩
    rw [madeCells_at _ _ _ hi]
    have hm : i % 9 < 9 := Nat.mod_lt _ (by omega)
    show some (zCpu[i % 9]!) = some (cpF noCp (i % 9))
    generalize i % 9 = m at *
    rcases m with _ | _ | _ | _ | _ | _ | _ | _ | _ | m <;> first | rfl | omega
  have hat : Blk W g3 its.length (fun i => .int .i64 ((begin_ its).pl i : Int)) := by
    refine ⟨_, _, h3, fun i hi => ?_⟩
    rw [madeCells_at _ _ _ hi]
    show some ((#[Value.int .i64 0])[i % 1]!) = _
    rw [Nat.mod_one]; rfl
  have hitems : 0 < its.length → ∃ g, ai = some ⟨g, 0, none⟩ ∧ Blk W g (its.length * 2) (itF its) ∧ g ≠ b ∧ g ≠ g1 ∧ g ≠ g3 := fun h => by
    obtain ⟨g, e, hg⟩ := hit h
    have := hg.lt
    exact ⟨g, e, hg.below hb, by omega, by omega, by omega⟩
  have m1 : b ≠ g1 := by omega
  have m2 : b ≠ g3 := by omega
  have m4 : w.heap.size ≤ b := by omega
  have k0 : 0 ≤ maxLen := Nat.zero_le _
  have k1 : n ≤ maxLen := by unfold maxLen; omega
  have k3 : its.length ≤ maxLen := by unfold maxLen; omega
  rcases hv with ⟨rfl, h0⟩ | ⟨g, cap, cur, rfl, hbase, hg, hc1, hc2, hcs, hct⟩
  · refine ⟨⟨ai, ci, g1, n, none, 0, g3, its.length⟩, rfl, rfl, (fun g e => by cases e), ⟨⟨_, _, hr, fun i hi => ?_⟩, hitems, hcp, fun h => absurd h (by omega), hat, ⟨m1, m2, e13, m4, l1, l3⟩, ⟨hci.1, hci.2, Nat.le_refl _, k1, Nat.le_of_eq h0, k0, Nat.le_refl _, k3⟩, ⟨by simp, by simp, by simp, by simp⟩⟩⟩
    rcases i with _ | _ | _ | _ | i <;> first | rfl | (simp [h0]; done) | omega
  · have p1 : g ≠ b := by omega
    have p2 : g ≠ g1 := by omega
    have p3 : g ≠ g3 := by omega
    have p4 : w.heap.size ≤ g := by omega
    refine ⟨⟨ai, ci, g1, n, some ⟨g, 0, none⟩, cap, g3, its.length⟩, rfl, rfl, (fun g' e => by cases e; exact row_lt hg), ⟨⟨_, _, hr, fun i hi => ?_⟩, hitems, hcp, fun h => ⟨g, rfl, ⟨_, _, hg, fun i hi => ?_⟩, p1, p2, p3, p4, fun e => ?_⟩, hat, ⟨m1, m2, e13, m4, l1, l3⟩, ⟨hci.1, hci.2, Nat.le_refl _, k1, hc1, hc2, Nat.le_refl _, k3⟩, ⟨fun e => p1 (congrArg Addr.block (Option.some.inj e)), fun e => p2 (congrArg Addr.block (Option.some.inj e)), fun e => p3 (congrArg Addr.block (Option.some.inj e)), fun g' e => by cases e; exact p4⟩⟩⟩
    · rcases i with _ | _ | _ | _ | i <;> first | rfl | omega
    · have e : cur.toList[i]? = (rdV its)[i]? := by rw [← hct, List.getElem?_take, if_pos (by omega)]
      rw [← Array.getElem?_toList, e]
      simp [rdV, begin_, isH, List.getD, hi]
    · obtain ⟨g', e', hg'⟩ := hit h
      have := hg'.lt
      simp only at e
      rw [e'] at e; cases e; omega

set_option maxRecDepth 100000 in
theorem begin_any (w : World) (its : List Wd.It) (n : Nat) (ai : Option Addr) (ci : Nat) (hn : n ≤ 3) (hl : its.length ≤ 240) (hci : its.length ≤ ci ∧ ci ≤ maxLen) (hit : 0 < its.length → ∃ g, ai = some ⟨g, 0, none⟩ ∧ Blk w g (its.length * 2) (itF its)) :
    Calls Try.prog 55 #[.slice ai its.length ci, .int .i64 n] w fun e w' => ∃ b A, e = .returned (.pointer (some ⟨b, 0, none⟩)) ∧ A.ai = ai ∧ A.ci = ci ∧ (∀ g, A.a2 = some ⟨g, 0, none⟩ → g < w'.heap.size) ∧ DM w' w.heap.size b A its n (begin_ its) ∧ Below w.heap.size w w' := by
  have hmk1 := fun W => mk_cpus W n (by omega)
  have hmk2 := fun W => mk_ints W its.length (by omega)
  obtain ⟨i0, hi0, hz0, hz1, hz2⟩ := info_parts Try.infoBool
  have HIT := hide hit
  have HCI := hide hci
  clear hit hci
  go_enter Try.func55, Try.ntmps55
  go_wp2_with fail
  go_region
  · have HT := hide (three_alloc w (.cells (madeCells zCpu (n * 9)) 133) (.cells (madeCells #[.int .i64 0] its.length) 3) (.cells #[.slice ai its.length ci, .slice (some ⟨w.heap.size, 0, none⟩) n n, .slice none 0 0, .slice (some ⟨w.heap.size + 1, 0, none⟩) its.length its.length] 127))
    clear hmk1 hmk2
    generalize (((w.alloc (.cells (madeCells zCpu (n * 9)) 133)).alloc (.cells (madeCells #[.int .i64 0] its.length) 3)).alloc (.cells #[.slice ai its.length ci, .slice (some ⟨w.heap.size, 0, none⟩) n n, .slice none 0 0, .slice (some ⟨w.heap.size + 1, 0, none⟩) its.length its.length] 127)).drew = W at *
    go_wp2
    go_loopw [6] (fun a wr => ∃ (k : Nat) (v : Value), k ≤ its.length ∧ a = .int .i64 k ∧ wr.heap[w.heap.size + 1 + 1]? = some (.cells #[.slice ai its.length ci, .slice (some ⟨w.heap.size, 0, none⟩) n n, v, .slice (some ⟨w.heap.size + 1, 0, none⟩) its.length its.length] 127 (0, 0)) ∧ wr.ownsRow (w.heap.size + 1 + 1 + 1) 4 1 v k (rdV (its.take k)) ∧ wr.heap[w.heap.size]? = some (.cells (madeCells zCpu (n * 9)) 133 (0, 0)) ∧ wr.heap[w.heap.size + 1]? = some (.cells (madeCells #[.int .i64 0] its.length) 3 (0, 0)) ∧ Below w.heap.size w wr) (fun a _ => its.length - (intOf a).toNat)
    case atStart => exact ⟨0, .slice none 0 0, by omega, rfl, HT.out.1.2.2, ⟨by simp [rdV], Or.inl ⟨rfl, rfl⟩⟩, HT.out.1.1, HT.out.1.2.1, HT.out.2⟩
    case round =>
      obtain ⟨k, v, hk, rfl, hroot, hown, hg1, hg3, hbe⟩ := hrel
      have HR := hide hroot
      have HO := hide hown
      have H1 := hide hg1
      have H3 := hide hg3
      have HB := hide hbe
      clear hroot hown hg1 hg3 hbe
      by_cases hlt : k < its.length
      · obtain ⟨gi, rfl, hgi⟩ := HIT.out (by omega)
        have gil := hgi.lt
        have gil2 : gi < wr.heap.size := Nat.lt_of_lt_of_le gil HB.out.size
        have hbl : w.heap.size + 1 + 1 < wr.heap.size := row_lt HR.out
        have HGI := hide (hgi.below HB.out)
        have HTK := hide (rdV_take its k hlt)
        have i1 : wr.cell? ⟨gi, k * 2, none⟩ = some (.bool (isH its k)) := by rw [HGI.out.cell (k * 2) (by omega)]; simp [itF]
        have i2 : ∀ o, (wr.alloc o).cell? ⟨gi, k * 2, none⟩ = some (.bool (isH its k)) := fun o => by rw [(HGI.out.alloc o).cell (k * 2) (by omega)]; simp [itF]
        generalize isH its k = x at *
        have c2 : wr.cell? ⟨w.heap.size + 1 + 1, 2, none⟩ = some v := row_cell HR.out rfl
        have c3 : ∀ o, (wr.alloc o).cell? ⟨w.heap.size + 1 + 1, 2, none⟩ = some v := fun o => row_cell ((heap_alloc_old _ _ hbl).trans HR.out) rfl
        have hcs : its.length ≤ ci ∧ ci ≤ 2 ^ 63 - 1 := HCI.out
        have HU : Hid (∀ (w1 : World), (wr.alloc (.cells #[.bool (!x)] 4)).drew.grownBy w1 v.ownBlock → (w1.heap[w.heap.size + 1 + 1]? = some (.cells #[.slice (some ⟨gi, 0, none⟩) its.length ci, .slice (some ⟨w.heap.size, 0, none⟩) n n, v, .slice (some ⟨w.heap.size + 1, 0, none⟩) its.length its.length] 127 (0, 0)) ∧ w1.heap[w.heap.size]? = some (.cells (madeCells zCpu (n * 9)) 133 (0, 0)) ∧ w1.heap[w.heap.size + 1]? = some (.cells (madeCells #[.int .i64 0] its.length) 3 (0, 0)) ∧ Below w.heap.size w w1)) := by
          apply hide
          intro w1 hg
          have q1 : v.ownBlock ≠ some (w.heap.size + 1 + 1) := fun e => by have := (HO.out.lt _ e).1; omega
          have q2 : v.ownBlock ≠ some (w.heap.size) := fun e => by have := (HO.out.lt _ e).1; omega
          have q3 : v.ownBlock ≠ some (w.heap.size + 1) := fun e => by have := (HO.out.lt _ e).1; omega
          refine ⟨?_, ?_, ?_, ?_⟩
          · rw [hg.block _ (by simp; omega) (Ne.symm q1), heap_drew, heap_alloc_old _ _ (by omega)]; exact HR.out
          · rw [hg.block _ (by simp; omega) (Ne.symm q2), heap_drew, heap_alloc_old _ _ (by omega)]; exact H1.out
          · rw [hg.block _ (by simp; omega) (Ne.symm q3), heap_drew, heap_alloc_old _ _ (by omega)]; exact H3.out
          · exact ((HB.out.alloc (by omega) _).drew).grown hg (by simp; omega) (fun k hk => by have := (HO.out.lt k hk).1; omega)
        go_wp2_with fail
        go_region_law ((refine step_append_lies _ (by rfl) _ _ _ (by rfl) (w.heap.size + 1 + 1 + 1) 4 i0 _ 1 1 Try.underlying125 hi0 hz0 hz1 hz2 rfl (by omega) v k (rdV (its.take k)) (by rfl) ((HO.out.alloc _).drew) ⟨wr.heap.size, 0, none⟩ 1 1 [.bool (!x)] (by rfl) (by rfl) (cell_one_new _ _ _) (by simp [Value.oneCell']) (by omega) (by unfold maxLen; omega) (by omega) (by simp; omega) (wr.heap.size + 1) (by simp) ?_; intro gg cap w1 hown1 hgrow hat hlt; have k0 : w1.cell? ⟨w.heap.size + 1 + 1, 2, none⟩ = some v := row_cell (HU.out w1 hgrow).1 rfl; have e0 := frozen_of_row _ (w.heap.size + 1 + 1) 2 _ _ (HU.out w1 hgrow).1; have HG := hide hgrow; have HW := hide hown1; clear hgrow hown1 hat hlt))
        all_goals go_wp2
        all_goals exact ⟨⟨k + 1, .slice (some ⟨gg, 0, none⟩) (k + 1) cap, by omega, by go_num, heap_setCell_same _ _ _ _ _ _ (HU.out w1 HG.out).1, by rw [HTK.out]; exact ownsRow_setCell_below HW.out (by simp) _, by rw [heap_setCell_other _ _ _ _ (by show _ ≠ _; simp only; omega)]; exact (HU.out _ HG.out).2.1, by rw [heap_setCell_other _ _ _ _ (by show _ ≠ _; simp only; omega)]; exact (HU.out _ HG.out).2.2.1, (HU.out _ HG.out).2.2.2.setCell (p := ⟨w.heap.size + 1 + 1, 2, none⟩) (by show _ ≤ _; simp only; omega) _⟩, by simp [intOf]; omega⟩
      · have ek : k = its.length := by omega
        subst ek
        rw [List.take_length] at HO
        obtain ⟨A, e1, e2, e3, hm⟩ := DM.beg hn hl HCI.out HIT.out HR.out HO.out H1.out H3.out HB.out (by omega) (by omega) (by omega) (by omega) (by omega)
        have HMM := hide hm
        have E1 := hide e1
        have E2 := hide e2
        have E3 := hide e3
        clear hm e1 e2 e3
        go_wp2
        go_ret
        exact ⟨_, A, rfl, E1.out, E2.out, E3.out, HMM.out, HB.out⟩
  · have HT := hide (three_alloc w (.cells (madeCells #[.int .i64 0] its.length) 3) (.cells (madeCells zCpu (n * 9)) 133) (.cells #[.slice ai its.length ci, .slice (some ⟨w.heap.size + 1, 0, none⟩) n n, .slice none 0 0, .slice (some ⟨w.heap.size, 0, none⟩) its.length its.length] 127))
    clear hmk1 hmk2
    generalize (((w.alloc (.cells (madeCells #[.int .i64 0] its.length) 3)).alloc (.cells (madeCells zCpu (n * 9)) 133)).alloc (.cells #[.slice ai its.length ci, .slice (some ⟨w.heap.size + 1, 0, none⟩) n n, .slice none 0 0, .slice (some ⟨w.heap.size, 0, none⟩) its.length its.length] 127)).drew = W at *
    go_wp2
    go_loopw [6] (fun a wr => ∃ (k : Nat) (v : Value), k ≤ its.length ∧ a = .int .i64 k ∧ wr.heap[w.heap.size + 1 + 1]? = some (.cells #[.slice ai its.length ci, .slice (some ⟨w.heap.size + 1, 0, none⟩) n n, v, .slice (some ⟨w.heap.size, 0, none⟩) its.length its.length] 127 (0, 0)) ∧ wr.ownsRow (w.heap.size + 1 + 1 + 1) 4 1 v k (rdV (its.take k)) ∧ wr.heap[w.heap.size + 1]? = some (.cells (madeCells zCpu (n * 9)) 133 (0, 0)) ∧ wr.heap[w.heap.size]? = some (.cells (madeCells #[.int .i64 0] its.length) 3 (0, 0)) ∧ Below w.heap.size w wr) (fun a _ => its.length - (intOf a).toNat)
    case atStart => exact ⟨0, .slice none 0 0, by omega, rfl, HT.out.1.2.2, ⟨by simp [rdV], Or.inl ⟨rfl, rfl⟩⟩, HT.out.1.2.1, HT.out.1.1, HT.out.2⟩
    case round =>
      obtain ⟨k, v, hk, rfl, hroot, hown, hg1, hg3, hbe⟩ := hrel
      have HR := hide hroot
      have HO := hide hown
      have H1 := hide hg1
      have H3 := hide hg3
      have HB := hide hbe
      clear hroot hown hg1 hg3 hbe
      by_cases hlt : k < its.length
      · obtain ⟨gi, rfl, hgi⟩ := HIT.out (by omega)
        have gil := hgi.lt
        have gil2 : gi < wr.heap.size := Nat.lt_of_lt_of_le gil HB.out.size
        have hbl : w.heap.size + 1 + 1 < wr.heap.size := row_lt HR.out
        have HGI := hide (hgi.below HB.out)
        have HTK := hide (rdV_take its k hlt)
        have i1 : wr.cell? ⟨gi, k * 2, none⟩ = some (.bool (isH its k)) := by rw [HGI.out.cell (k * 2) (by omega)]; simp [itF]
        have i2 : ∀ o, (wr.alloc o).cell? ⟨gi, k * 2, none⟩ = some (.bool (isH its k)) := fun o => by rw [(HGI.out.alloc o).cell (k * 2) (by omega)]; simp [itF]
        generalize isH its k = x at *
        have c2 : wr.cell? ⟨w.heap.size + 1 + 1, 2, none⟩ = some v := row_cell HR.out rfl
        have c3 : ∀ o, (wr.alloc o).cell? ⟨w.heap.size + 1 + 1, 2, none⟩ = some v := fun o => row_cell ((heap_alloc_old _ _ hbl).trans HR.out) rfl
        have hcs : its.length ≤ ci ∧ ci ≤ 2 ^ 63 - 1 := HCI.out
        have HU : Hid (∀ (w1 : World), (wr.alloc (.cells #[.bool (!x)] 4)).drew.grownBy w1 v.ownBlock → (w1.heap[w.heap.size + 1 + 1]? = some (.cells #[.slice (some ⟨gi, 0, none⟩) its.length ci, .slice (some ⟨w.heap.size + 1, 0, none⟩) n n, v, .slice (some ⟨w.heap.size, 0, none⟩) its.length its.length] 127 (0, 0)) ∧ w1.heap[w.heap.size + 1]? = some (.cells (madeCells zCpu (n * 9)) 133 (0, 0)) ∧ w1.heap[w.heap.size]? = some (.cells (madeCells #[.int .i64 0] its.length) 3 (0, 0)) ∧ Below w.heap.size w w1)) := by
          apply hide
          intro w1 hg
          have q1 : v.ownBlock ≠ some (w.heap.size + 1 + 1) := fun e => by have := (HO.out.lt _ e).1; omega
          have q2 : v.ownBlock ≠ some (w.heap.size + 1) := fun e => by have := (HO.out.lt _ e).1; omega
          have q3 : v.ownBlock ≠ some (w.heap.size) := fun e => by have := (HO.out.lt _ e).1; omega
          refine ⟨?_, ?_, ?_, ?_⟩
          · rw [hg.block _ (by simp; omega) (Ne.symm q1), heap_drew, heap_alloc_old _ _ (by omega)]; exact HR.out
          · rw [hg.block _ (by simp; omega) (Ne.symm q2), heap_drew, heap_alloc_old _ _ (by omega)]; exact H1.out
          · rw [hg.block _ (by simp; omega) (Ne.symm q3), heap_drew, heap_alloc_old _ _ (by omega)]; exact H3.out
          · exact ((HB.out.alloc (by omega) _).drew).grown hg (by simp; omega) (fun k hk => by have := (HO.out.lt k hk).1; omega)
        go_wp2_with fail
        go_region_law ((refine step_append_lies _ (by rfl) _ _ _ (by rfl) (w.heap.size + 1 + 1 + 1) 4 i0 _ 1 1 Try.underlying125 hi0 hz0 hz1 hz2 rfl (by omega) v k (rdV (its.take k)) (by rfl) ((HO.out.alloc _).drew) ⟨wr.heap.size, 0, none⟩ 1 1 [.bool (!x)] (by rfl) (by rfl) (cell_one_new _ _ _) (by simp [Value.oneCell']) (by omega) (by unfold maxLen; omega) (by omega) (by simp; omega) (wr.heap.size + 1) (by simp) ?_; intro gg cap w1 hown1 hgrow hat hlt; have k0 : w1.cell? ⟨w.heap.size + 1 + 1, 2, none⟩ = some v := row_cell (HU.out w1 hgrow).1 rfl; have e0 := frozen_of_row _ (w.heap.size + 1 + 1) 2 _ _ (HU.out w1 hgrow).1; have HG := hide hgrow; have HW := hide hown1; clear hgrow hown1 hat hlt))
        all_goals go_wp2
        all_goals exact ⟨⟨k + 1, .slice (some ⟨gg, 0, none⟩) (k + 1) cap, by omega, by go_num, heap_setCell_same _ _ _ _ _ _ (HU.out w1 HG.out).1, by rw [HTK.out]; exact ownsRow_setCell_below HW.out (by simp) _, by rw [heap_setCell_other _ _ _ _ (by show _ ≠ _; simp only; omega)]; exact (HU.out _ HG.out).2.1, by rw [heap_setCell_other _ _ _ _ (by show _ ≠ _; simp only; omega)]; exact (HU.out _ HG.out).2.2.1, (HU.out _ HG.out).2.2.2.setCell (p := ⟨w.heap.size + 1 + 1, 2, none⟩) (by show _ ≤ _; simp only; omega) _⟩, by simp [intOf]; omega⟩
      · have ek : k = its.length := by omega
        subst ek
        rw [List.take_length] at HO
        obtain ⟨A, e1, e2, e3, hm⟩ := DM.beg hn hl HCI.out HIT.out HR.out HO.out H1.out H3.out HB.out (by omega) (by omega) (by omega) (by omega) (by omega)
        have HMM := hide hm
        have E1 := hide e1
        have E2 := hide e2
        have E3 := hide e3
        clear hm e1 e2 e3
        go_wp2
        go_ret
        exact ⟨_, A, rfl, E1.out, E2.out, E3.out, HMM.out, HB.out⟩
end Go.Proofs.Ytecmfdkhcffpmaa
