/- Contracts: the call Show; the letter of a kind. -/
import Derived.Test.YtecmfdkhcffpmaaStT
import Derived.Test.YtecmfdkhcffpmaaKpV
import Derived.Test.YtecmfdkhcffpmaaKpO
namespace Go.Proofs.Ytecmfdkhcffpmaa
open Go.RowKit
set_option linter.unusedSimpArgs false
set_option linter.unusedVariables false
set_option maxHeartbeats 8000000
open Wd Mc

set_option maxRecDepth 100000 in
theorem wshow_err (s : ByteArray) (w : World) (x : Int × Int) (K I P : Int) (hs : s.size ≤ maxLen) (hread : Wd.readP s.data.toList = .error x) :
    Calls Try.prog 25 #[.string s, .agg #[.int .i64 K, .int .i64 I, .int .i64 P]] w fun e w' => e = .returned (.tuple #[.string (Wd.mkS []), .int .i64 x.1]) ∧ Below w.heap.size w w' := by
  have A := hide (fun W => show_err s W x K I P hs hread)
  have HB0 := hide (below_one w (.cells #[.int .i64 K, .int .i64 I, .int .i64 P] 41))
  clear hread
  go_enter Try.func25, Try.ntmps25
  go_wp2_with (first | (go_at_call 64; refine (A.out _).mono ?_; rintro e w1 ⟨rfl, hb1⟩; have HB1 := hide (below_go HB0.out hb1); clear hb1))
  go_ret2
  exact ⟨rfl, HB1.out⟩
set_option maxRecDepth 100000 in
theorem wshow_out (s : ByteArray) (w : World) (its : List Wd.It) (K I P : Int) (hs : s.size ≤ maxLen) (hread : Wd.readP s.data.toList = .ok its) (hI : ¬ (0 ≤ I ∧ I < its.length)) :
    Calls Try.prog 25 #[.string s, .agg #[.int .i64 K, .int .i64 I, .int .i64 P]] w fun e w' => e = .returned (.tuple #[.string (Wd.mkS []), .int .i64 8]) ∧ Below w.heap.size w w' := by
  have A := hide (fun W => show_out s W its K I P hs hread hI)
  have HB0 := hide (below_one w (.cells #[.int .i64 K, .int .i64 I, .int .i64 P] 41))
  clear hread hI
  go_enter Try.func25, Try.ntmps25
  go_wp2_with (first | (go_at_call 64; refine (A.out _).mono ?_; rintro e w1 ⟨rfl, hb1⟩; have HB1 := hide (below_go HB0.out hb1); clear hb1))
  go_ret2
  exact ⟨rfl, HB1.out⟩
set_option maxRecDepth 100000 in
theorem wshow_in (s : ByteArray) (w : World) (its : List Wd.It) (i : Nat) (K P : Int) (hs : s.size ≤ maxLen) (hread : Wd.readP s.data.toList = .ok its) (hi : i < its.length) :
    Calls Try.prog 25 #[.string s, .agg #[.int .i64 K, .int .i64 i, .int .i64 P]] w fun e w' => ShowIn i (isH its i) (bodyOf its i) K P e ∧ Below w.heap.size w w' := by
  have A := hide (fun W => show_in s W its i K P hs hread hi)
  have HB0 := hide (below_one w (.cells #[.int .i64 K, .int .i64 (i : Int), .int .i64 P] 41))
  clear hread
  go_enter Try.func25, Try.ntmps25
  go_wp2_with fail
  go_at_call 64
  refine (A.out _).mono ?_
  rintro e w1 ⟨⟨L, hF, h | h⟩, hb1⟩
  · obtain ⟨j, r, h1, h2, h3, h4, rfl⟩ := h
    have HB1 := hide (below_go HB0.out hb1)
    have HP : Hid (∀ e, e = .returned (.tuple #[.string (Wd.mkS (scriptP i (bodyOf its i) (wayP L j))), .int .i64 0]) → ShowIn i (isH its i) (bodyOf its i) K P e) := hide (fun e he => ⟨L, hF, Or.inl ⟨j, r, h1, h2, h3, h4, he⟩⟩)
    clear hb1 h1 h2 h3 h4 hF
    generalize scriptP i (bodyOf its i) (wayP L j) = SC at *
    go_wp2
    go_ret2
    exact ⟨HP.out _ rfl, HB1.out⟩
  · obtain ⟨h1, rfl⟩ := h
    have HB1 := hide (below_go HB0.out hb1)
    have HP : Hid (∀ e, e = .returned (.tuple #[.string (Wd.mkS []), .int .i64 8]) → ShowIn i (isH its i) (bodyOf its i) K P e) := hide (fun e he => ⟨L, hF, Or.inr ⟨h1, he⟩⟩)
    clear hb1 h1 hF
    go_wp2
    go_ret2
    exact ⟨HP.out _ rfl, HB1.out⟩
/-- The letter of a kind. -/
def letK (k : Nat) : Int := if k = 1 then 68 else if k = 2 then 85 else if k = 3 then 83 else if k = 4 then 69 else 73
theorem letter_1 (w : World) : Calls Try.prog 37 #[.int .i64 1] w fun e w' => e = .returned (.int .u8 68) ∧ w' = w := by
  go_enter Try.func37, Try.ntmps37
  go_wp2
  go_ret
  exact ⟨rfl, rfl⟩
theorem letter_2 (w : World) : Calls Try.prog 37 #[.int .i64 2] w fun e w' => e = .returned (.int .u8 85) ∧ w' = w := by
  go_enter Try.func37, Try.ntmps37
  go_wp2
  go_ret
  exact ⟨rfl, rfl⟩
theorem letter_3 (w : World) : Calls Try.prog 37 #[.int .i64 3] w fun e w' => e = .returned (.int .u8 83) ∧ w' = w := by
  go_enter Try.func37, Try.ntmps37
  go_wp2
  go_ret
  exact ⟨rfl, rfl⟩
theorem letter_4 (w : World) : Calls Try.prog 37 #[.int .i64 4] w fun e w' => e = .returned (.int .u8 69) ∧ w' = w := by
  go_enter Try.func37, Try.ntmps37
  go_wp2
  go_ret
  exact ⟨rfl, rfl⟩
theorem letter_5 (w : World) : Calls Try.prog 37 #[.int .i64 5] w fun e w' => e = .returned (.int .u8 73) ∧ w' = w := by
  go_enter Try.func37, Try.ntmps37
  go_wp2
  go_ret
  exact ⟨rfl, rfl⟩
theorem letter_any (k : Nat) (w : World) (h1 : 1 ≤ k) (h5 : k ≤ 5) : Calls Try.prog 37 #[.int .i64 k] w fun e w' => e = .returned (.int .u8 (letK k)) ∧ w' = w := by
  match k, h1, h5 with
  | 1, _, _ => exact letter_1 w
  | 2, _, _ => exact letter_2 w
  | 3, _, _ => exact letter_3 w
  | 4, _, _ => exact letter_4 w
  | 5, _, _ => exact letter_5 w
/-- What reports there are. -/
theorem analyse_mem {its : List It} {x : Rp} (h : x ∈ analyseS its) : (∃ k i p : Nat, 1 ≤ k ∧ k ≤ 5 ∧ i < its.length ∧ x = ((k : Int), (i : Int), (p : Int)) ∧ BadAt (isH its i) (bodyOf its i) k p) ∨ (∃ k l : Nat, (k = 6 ∨ k = 7) ∧ x = ((k : Int), -1, (l : Int))) := by
  unfold analyseS at h
  rw [List.mem_append, List.mem_append] at h
  rcases h with (h | h) | h
  · left
    unfold soloS solos at h
    rw [List.mem_flatMap] at h
    obtain ⟨k, hk, h⟩ := h
    unfold soloK at h
    rw [List.mem_flatMap] at h
    obtain ⟨i, hi, h⟩ := h
    unfold soloRow at h
    rw [List.mem_map] at h
    obtain ⟨p, hp, rfl⟩ := h
    rw [List.mem_filter] at hp
    simp at hk hi
    exact ⟨k + 1, i, p, by omega, by omega, hi, rfl, by have := hp.2; simpa using this⟩
  · right
    unfold ringL at h
    rw [List.mem_map] at h
    obtain ⟨l, _, rfl⟩ := h
    exact ⟨6, l, Or.inl rfl, rfl⟩
  · right
    unfold raceS raceL at h
    rw [List.mem_map] at h
    obtain ⟨l, _, rfl⟩ := h
    exact ⟨7, l, Or.inr rfl, rfl⟩
theorem let_kind {f : Int} {k : Nat} (hk : 1 ≤ k) (hv : f = 0 ∨ f = 68 ∨ f = 85 ∨ f = 83 ∨ f = 69 ∨ f = 73) (h : kindP f = k) : f ≠ 0 ∧ f = letK k := by
  unfold kindP at h
  rcases hv with rfl | rfl | rfl | rfl | rfl | rfl
  · simp at h; omega
  all_goals (simp at h; have : k = _ := (by omega : k = (k : Int).toNat); refine ⟨by decide, ?_⟩; unfold letK; repeat' split)
  all_goals first | rfl | omega
/-- Of a report of an item by itself Show gives a script that makes it come about. -/
theorem shown_in {its : List It} (hf : Fine its) {k i p : Nat} (h1 : 1 ≤ k) (hi : i < its.length) (hb : BadAt (isH its i) (bodyOf its i) k p) {e : Ending} (hs : ShowIn i (isH its i) (bodyOf its i) k p e) :
    ∃ sc : List UInt8, e = .returned (.tuple #[.string (Wd.mkS sc), .int .i64 0]) ∧ scriptB (1 : Nat) sc = true ∧ sc.length ≤ 200000 ∧ lastP (traceB its 1 (begin_ its) sc) = letK k := by
  obtain ⟨L, hF, hs | hs⟩ := hs
  · obtain ⟨j, r, a1, a2, a3, a4, rfl⟩ := hs
    have hv := faultP_vals (isH its i) (bodyOf its i) r.p r.h r.off
    have hk : kindP (faultP (isH its i) (bodyOf its i) r.p r.h r.off) = k := a2
    obtain ⟨b1, b2⟩ := let_kind h1 hv hk
    obtain ⟨c1, c2, c3⟩ := show_plain hf hi hF a1 b1
    exact ⟨_, rfl, c2, c3, by rw [c1, b2]⟩
  · exfalso
    obtain ⟨h, off, hr, hk⟩ := hb
    obtain ⟨r, hr1, hr2⟩ := (hF.all _).1 hr
    have e2 : r.p = p := by have := congrArg (fun s : St3 => s.1) hr2; simpa [Rc.st] using this
    refine hs.1 r hr1 ⟨?_, ?_, by rw [e2]⟩
    · rw [hr2, hk]; omega
    · rw [hr2, hk]
end Go.Proofs.Ytecmfdkhcffpmaa
