/- KwS. -/
import Derived.Test.YtecmfdkhcffpmaaB53
import Derived.Test.YtecmfdkhcffpmaaB47
/- Contracts: the call Show; the letter of a kind. -/
namespace Go.Proofs.Ytecmfdkhcffpmaa
open Go.RowKit
set_option linter.unusedSimpArgs false
set_option linter.unusedVariables false
set_option maxHeartbeats 8000000
open Wd Mc

set_option maxRecDepth 100000 in
theorem wshow_err (s : ByteArray) (w : World) (x : Int × Int) (K I P : Int) (hs : s.size ≤ maxLen) (hread : Wd.readP s.data.toList = .error x) :
    Calls Try.prog 25 #[.string s, .agg #[.int .i64 K, .int .i64 I, .int .i64 P]] w fun e w' => e = .returned (.tuple #[.string (Wd.mkS []), .int .i64 x.1]) ∧ Below w.heap.size w w' := by
  have A := hide (fun W => show_err s W x K I P hs hread)
  have HB0 := hide (below_one w (.cells #[.int .i64 K, .int .i64 I, .int .i64 P] 41))
  clear hread
  go_enter Try.func25, Try.ntmps25
  go_wp2_with (first | (go_at_call 64; refine (A.out _).mono ?_; rintro e w1 ⟨rfl, hb1⟩; have HB1 := hide (below_go HB0.out hb1); clear hb1))
  go_ret2
  exact ⟨rfl, HB1.out⟩
set_option maxRecDepth 100000 in
theorem wshow_out (s : ByteArray) (w : World) (its : List Wd.It) (K I P : Int) (hs : s.size ≤ maxLen) (hread : Wd.readP s.data.toList = .ok its) (hI : ¬ (0 ≤ I ∧ I < its.length)) :
    Calls Try.prog 25 #[.string s, .agg #[.int .i64 K, .int .i64 I, .int .i64 P]] w fun e w' => e = .returned (.tuple #[.string (Wd.mkS []), .int .i64 8]) ∧ Below w.heap.size w w' := by
  have A := hide (fun W => show_out s W its K I P hs hread hI)
  have HB0 := hide (below_one w (.cells #[.int .i64 K, .int .i64 I, .int .i64 P] 41))
  clear hread hI
  go_enter Try.func25, Try.ntmps25
  go_wp2_with (first | (go_at_call 64; refine (A.out _).mono ?_; rintro e w1 ⟨rfl, hb1⟩; have HB1 := hide (below_go HB0.out hb1); clear hb1))
  go_ret2
  exact ⟨rfl, HB1.out⟩
set_option maxRecDepth 100000 in
theorem wshow_in (s : ByteArray) (w : World) (its : List Wd.It) (i : Nat) (K P : Int) (hs : s.size ≤ maxLen) (hread : Wd.readP s.data.toList = .ok its) (hi : i < its.length) :
    Calls Try.prog 25 #[.string s, .agg #[.int .i64 K, .int .i64 i, .int .i64 P]] w fun e w' => ShowIn i (isH its i) (bodyOf its i) K P e ∧ Below w.heap.size w w' := by
  have A := hide (fun W => show_in s W its i K P hs hread hi)
  have HB0 := hide (below_one w (.cells #[.int .i64 K, .int .i64 (i : Int), .int .i64 P] 41))
  clear hread
  go_enter Try.func25, Try.ntmps25
  go_wp2_with fail
  go_at_call 64
  refine (A.out _).mono ?_
  rintro e w1 ⟨⟨L, hF, h | h⟩, hb1⟩
  · obtain ⟨j, r, h1, h2, h3, h4, rfl⟩ := h
    have HB1 := hide (below_go HB0.out hb1)
    have HP : Hid (∀ e, e = .returned (.tuple #[.string (Wd.mkS (scriptP i (bodyOf its i) (wayP L j))), .int .i64 0]) → ShowIn i (isH its i) (bodyOf its i) K P e) := hide (fun e he => ⟨L, hF, Or.inl ⟨j, r, h1, h2, h3, h4, he⟩⟩)
    clear hb1 h1 h2 h3 h4 hF
    generalize scriptP i (bodyOf its i) (wayP L j) = SC at *
    go_wp2
    go_ret2
    exact ⟨HP.out _ rfl, HB1.out⟩
  · obtain ⟨h1, rfl⟩ := h
    have HB1 := hide (below_go HB0.out hb1)
    have HP : Hid (∀ e, e = .returned (.tuple #[.string (Wd.mkS []), .int .i64 8]) → ShowIn i (isH its i) (bodyOf its i) K P e) := hide (fun e he => ⟨L, hF, Or.inr ⟨h1, he⟩⟩)
    clear hb1 h1 hF
    go_wp2
    go_ret2
    exact ⟨HP.out _ rfl, HB1.out⟩
/-- What reports there are. -/
theorem analyse_mem {its : List It} {x : Rp} (h : x ∈ analyseS its) : (∃ k i p : Nat, 1 ≤ k ∧ k ≤ 5 ∧ i < its.length ∧ x = ((k : Int), (i : Int), (p : Int)) ∧ BadAt (isH its i) (bodyOf its i) k p) ∨ (∃ k l : Nat, (k = 6 ∨ k = 7) ∧ x = ((k : Int), -1, (l : Int))) := by
  unfold analyseS at h
  rw [List.mem_append, List.mem_append] at h
  rcases h with (h | h) | h
  · left
    unfold soloS solos at h
    rw [List.mem_flatMap] at h
    obtain ⟨k, hk, h⟩ := h
    unfold soloK at h
    rw [List.mem_flatMap] at h
    obtain ⟨i, hi, h⟩ := h
    unfold soloRow at h
    rw [List.mem_map] at h
    obtain ⟨p, hp, rfl⟩ := h
    rw [List.mem_filter] at hp
    simp at hk hi
    exact ⟨k + 1, i, p, by omega, by omega, hi, rfl, by have := hp.2; simpa using this⟩
  · right
    unfold ringL at h
    rw [List.mem_map] at h
    obtain ⟨l, _, rfl⟩ := h
    exact ⟨6, l, Or.inl rfl, rfl⟩
  · right
    unfold raceS raceL at h
    rw [List.mem_map] at h
    obtain ⟨l, _, rfl⟩ := h
    exact ⟨7, l, Or.inr rfl, rfl⟩
end Go.Proofs.Ytecmfdkhcffpmaa
