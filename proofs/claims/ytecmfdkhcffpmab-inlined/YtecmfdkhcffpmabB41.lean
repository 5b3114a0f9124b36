/- StM, StG. -/
import Derived.Test.YtecmfdkhcffpmabB36
import Derived.Test.YtecmfdkhcffpmabB40
import Derived.Test.YtecmfdkhcffpmabB37
/- Contracts of the program's reports: visits to a cell. -/
namespace Go.Proofs.Ytecmfdkhcffpmab
open Go.RowKit
set_option linter.unusedSimpArgs false
set_option linter.unusedVariables false
set_option maxHeartbeats 8000000
open Mc

theorem viStep_no {b : List UInt8} {c : Nat} {z : Vi} {r : Rc} (h : ¬ ((atB b r.p = 114 ∨ atB b r.p = 119) ∧ numP b r.p = (c : Int))) : viStep b c z r = z := by unfold viStep; rw [if_neg h]
theorem viStep_yes {b : List UInt8} {c : Nat} {z : Vi} {r : Rc} (h : (atB b r.p = 114 ∨ atB b r.p = 119) ∧ numP b r.p = (c : Int)) : viStep b c z r = ⟨fun x => if x = hn r.h then (z.wr (hn r.h) || decide (atB b r.p = 119)) else z.wr x, fun x => if x = hn r.h then true else z.ei x⟩ := by
  unfold viStep
  rw [if_pos h]
  congr 1
  funext x
  by_cases e : x = hn r.h
  · rw [e]
  · rw [if_neg e, if_neg e]
theorem visP_take {b : List UInt8} {c j : Nat} {L : List Rc} {r : Rc} (h : L[j]? = some r) : visP b c (L.take (j + 1)) = viStep b c (visP b c (L.take j)) r := foldl_take _ _ L h
structure VsI (w W : World) (k : Kn) (kao : Option Addr) (kc : Nat) (z : Vi) : Prop where
  k : Row W w.heap.size #[.bool k.hd, .bool k.hd, .string k.s, .slice (some ⟨k.lg, 0, none⟩) k.s.size k.s.size, .slice kao k.L.length kc] 111
  res : Row W (w.heap.size + 1) (viA noVi) 143
  fd : Row W (w.heap.size + 2) (viA z) 143
  b : Below w.heap.size w W
theorem VsI.below {w W W' : World} {k : Kn} {kao : Option Addr} {kc : Nat} {z : Vi} (h : VsI w W k kao kc z) (hb : Below W.heap.size W W') : VsI w W' k kao kc z := ⟨h.k.below hb, h.res.below hb, h.fd.below hb, below_go h.b hb⟩
theorem VsI.set {w W : World} {k : Kn} {kao : Option Addr} {kc : Nat} {z : Vi} (h : VsI w W k kao kc z) (x : Nat) (hx : x < 64) (o : Bool) : VsI w ((W.setCell ⟨w.heap.size + 2, 64 + x, none⟩ (.bool true)).setCell ⟨w.heap.size + 2, x, none⟩ (.bool o)) k kao kc ⟨fun y => if y = x then o else z.wr y, fun y => if y = x then true else z.ei y⟩ := by
  refine ⟨(h.k.setO (by omega) _ _).setO (by omega) _ _, (h.res.setO (by omega) _ _).setO (by omega) _ _, ?_, (h.b.setCell (show w.heap.size ≤ w.heap.size + 2 by omega) _).setCell (show w.heap.size ≤ w.heap.size + 2 by omega) _⟩
  have h1 := h.fd.set (64 + x) (.bool true)
  rw [viA_setE z x hx true] at h1
  have h2 := h1.set x (.bool o)
  rw [viA_setW _ x hx o] at h2
  exact h2
set_option maxRecDepth 100000 in
theorem visitsTo_any (w : World) (k : Kn) (kao : Option Addr) (kc : Nat) (c : Nat) (hc : c < 4) (hkv : k.v = .slice kao k.L.length kc) (hin : KnIn w k) :
    Calls Try.prog 72 #[.agg #[.bool k.hd, .bool k.hd, .string k.s, .slice (some ⟨k.lg, 0, none⟩) k.s.size k.s.size, .slice kao k.L.length kc], .int .i64 c] w fun e w' => e = .returned (.agg (viA (visP k.s.data.toList c k.L))) ∧ Below w.heap.size w w' := by
  have HIN := hide hin
  have HKV := hide hkv
  have hLl : k.L.length ≤ 100000 := by have h1 := hin.fin.len hin.gb; have h2 := hin.gb.short; have h3 := Nat.mul_le_mul_right 128 (show k.s.data.toList.length + 1 ≤ 301 by omega); omega
  have hok := hide hin.gb.pair
  have hks : k.s.size ≤ 300 := hin.short
  clear hin hkv
  have HV0 : Hid (VsI w (((w.alloc (.cells #[.bool k.hd, .bool k.hd, .string k.s, .slice (some ⟨k.lg, 0, none⟩) k.s.size k.s.size, .slice kao k.L.length kc] 111)).alloc (.cells (viA noVi) 143)).alloc (.cells (viA noVi) 143)) k kao kc noVi) := by
    obtain ⟨a, b, d⟩ := Row.three w #[.bool k.hd, .bool k.hd, .string k.s, .slice (some ⟨k.lg, 0, none⟩) k.s.size k.s.size, .slice kao k.L.length kc] (viA noVi) (viA noVi) 111 143 143
    exact hide ⟨a, b, d, below_three w _ _ _⟩
  have y4 : (((w.alloc (.cells #[.bool k.hd, .bool k.hd, .string k.s, .slice (some ⟨k.lg, 0, none⟩) k.s.size k.s.size, .slice kao k.L.length kc] 111)).alloc (.cells (viA noVi) 143)).alloc (.cells (viA noVi) 143)).cell? ⟨w.heap.size, 4, none⟩ = some (.slice kao k.L.length kc) := HV0.out.k.cell 4 rfl
  go_enter Try.func72, Try.ntmps72
  go_wp2_with (first | (refine wpList_store_row rfl 143 _ _ rfl _ (viA noVi) rfl rfl 143 (viA noVi) ?_ (Try.iVi _) rfl (viA_one _) ?_; (exact heap_alloc_last _ _); rw [World.setRow_alloc_new]) | (refine wpList_allocV rfl rfl ?_) | (refine wpList_buildV rfl rfl ?_))
  generalize ((w.alloc (.cells #[.bool k.hd, .bool k.hd, .string k.s, .slice (some ⟨k.lg, 0, none⟩) k.s.size k.s.size, .slice kao k.L.length kc] 111)).alloc (.cells (viA noVi) 143)).alloc (.cells (viA noVi) 143) = W at *
  clear y4
  go_loopw [15] (fun a wr => ∃ j : Nat, j ≤ k.L.length ∧ a = .int .i64 j ∧ VsI w wr k kao kc (visP k.s.data.toList c (k.L.take j))) (fun a _ => k.L.length - (intOf a).toNat)
  case atStart => exact ⟨0, by omega, rfl, HV0.out⟩
  case round =>
    clear HV0
    obtain ⟨j, hj, rfl, hv⟩ := hrel
    have HV := hide hv
    clear hv
    by_cases hjt : j < k.L.length
    · obtain ⟨r, hr⟩ : ∃ r, k.L[j]? = some r := ⟨k.L[j], List.getElem?_eq_getElem hjt⟩
      have hmem := List.mem_of_getElem? hr
      have hso := HIN.out.fin.ok HIN.out.gb hmem
      have hrp : r.p ≤ 20000 := by have h1 := hso.2.le; have h2 := HIN.out.gb.short; have h3 : r.st.1 = r.p := rfl; omega
      have hrh : r.h < 64 := hso.1
      obtain ⟨g1, cap1, hv1, _, hg1, _, _, hr1⟩ := own_rc (HKV.out ▸ (own_belowZ HIN.out.own HV.out.b)) hr
      cases hv1
      have HR1 : Hid (wr.rangeAt g1 (j * 10) (rcV r)) := hide hr1
      have hj0 : (0 : Int) ≤ (j : Int) := by omega
      obtain ⟨z, hz⟩ : ∃ z, visP k.s.data.toList c (k.L.take j) = z := ⟨_, rfl⟩
      rw [hz] at HV
      have HNO := hide (fun h => (visP_take (b := k.s.data.toList) (c := c) hr).trans (viStep_no (z := visP k.s.data.toList c (k.L.take j)) h))
      have HYES := hide (fun h => (visP_take (b := k.s.data.toList) (c := c) hr).trans (viStep_yes (z := visP k.s.data.toList c (k.L.take j)) h))
      rw [hz] at HNO HYES
      have AA := hide (fun W => codeAt_any k.hd k.s (some ⟨k.lg, 0, none⟩) k.s.size k.s.size r.p W (by omega) hrp)
      have AN := hide (fun W => codeNumber_any k.hd k.s (some ⟨k.lg, 0, none⟩) k.s.size k.s.size r.p W (by omega) hrp hok.out)
      have AH : Hid (∀ W, Calls Try.prog 92 #[.agg (bsA 6 (hb r.h))] W fun e w' => e = .returned (.int .i64 ((hn r.h : Nat) : Int)) ∧ Below W.heap.size W w') := hide (fun W => heldNumber_any r.h W)
      have hnb := numP_bd hok.out r.p
      have hhn := hn_lt r.h hrh
      clear hr hr1 hso hz hmem
      generalize atB k.s.data.toList r.p = a at *
      generalize numP k.s.data.toList r.p = n at *
      have HX : Hid (∀ W, VsI w W k (some ⟨g1, 0, none⟩) kc z → W.cell? ⟨w.heap.size + 2, 64 + hn r.h, none⟩ = some (.bool (z.ei (hn r.h))) ∧ W.cell? ⟨w.heap.size + 2, hn r.h, none⟩ = some (.bool (z.wr (hn r.h)))) := hide (fun W h => ⟨h.fd.cell _ (viA_ei z _ hhn), h.fd.cell _ (viA_wr z _ hhn)⟩)
      generalize z.wr (hn r.h) = o at *
      generalize z.ei (hn r.h) = o' at *
      have HSET : Hid (∀ W, VsI w W k (some ⟨g1, 0, none⟩) kc z → ∀ o, VsI w ((W.setCell ⟨w.heap.size + 2, 64 + hn r.h, none⟩ (.bool true)).setCell ⟨w.heap.size + 2, hn r.h, none⟩ (.bool o)) k (some ⟨g1, 0, none⟩) kc ⟨fun y => if y = hn r.h then o else z.wr y, fun y => if y = hn r.h then true else z.ei y⟩) := hide (fun W h o => h.set _ hhn o)
      generalize hn r.h = x at *
      have hxI : (x : Int) < 64 := by omega
      have hx0 : (0 : Int) ≤ (x : Int) := by omega
      by_cases ha : a = 114 ∨ a = 119
      · by_cases hn : n = (c : Int)
        · subst hn
          rcases ha with rfl | rfl
          · cases o <;> (
              go_wp2_with (first | (go_at_call 92; refine (AH.out _).mono ?_; rintro e w4 ⟨rfl, hb4⟩; have HV4 := hide (HV3.out.below hb4); obtain ⟨q1, q2⟩ := HX.out _ HV4.out; have f1 := HV4.out.fd.frozen (64 + x); have f2 := HV4.out.fd.frozen x; clear hb4) | (refine wpList_load_bs rfl 98 _ rfl _ _ rfl 6 (hb r.h) _ ?_ Try.uHeld rfl Try.iHeld ?_; (exact HRR3.out.heldB)) | (go_at_call 74; refine (AN.out _).mono ?_; rintro e w3 ⟨rfl, hb3⟩; have HV3 := hide (HV2.out.below hb3); have HRR3 := hide (HRR2.out.below hb3); clear hb3) | (refine wpList_load_mid rfl 97 _ rfl _ _ rfl [.bool k.hd, .string k.s, .slice (some ⟨k.lg, 0, none⟩) k.s.size k.s.size] _ ?_ Try.underlying97 rfl Try.iCode ?_; (exact HV2.out.k.code3)) | (go_at_call 75; refine (AA.out _).mono ?_; rintro e w2 ⟨rfl, hb2⟩; have HV2 := hide (HV1.out.below hb2); have HRR2 := hide (HRR1.out.below hb2); have p2 : w2.cell? ⟨wr.heap.size, 0, none⟩ = some (.int .i64 (r.p : Int)) := HRR2.out.cell 0 (rcA_p r); clear hb2) | (refine wpList_load_mid rfl 97 _ rfl _ _ rfl [.bool k.hd, .string k.s, .slice (some ⟨k.lg, 0, none⟩) k.s.size k.s.size] _ ?_ Try.underlying97 rfl Try.iCode ?_; (exact HV1.out.k.code3)) | (refine wpList_store_row rfl 118 _ _ rfl wr.heap.size (rcA r) rfl rfl 118 #[.int .i64 0, .bool false, .bool false, .bool false, .bool false, .bool false, .bool false, .bool false, .int .i64 0, .bool false] ?_ (Try.iRc _) rfl (rcA_one _) ?_; (exact (Row.new wr #[.int .i64 0, .bool false, .bool false, .bool false, .bool false, .bool false, .bool false, .bool false, .int .i64 0, .bool false] 118).raw); rw [World.setRow_alloc_new]; have HV1 := hide (HV.out.below (below_one wr (.cells (rcA r) 118))); have HRR1 := hide (Row.new wr (rcA r) 118); generalize wr.alloc (.cells (rcA r) 118) = w1 at *; have p1 : w1.cell? ⟨wr.heap.size, 0, none⟩ = some (.int .i64 (r.p : Int)) := HRR1.out.cell 0 (rcA_p r)) | (refine wpList_load_mid rfl 118 _ rfl _ _ rfl (rcV r) _ ?_ Try.underlying118 rfl Try.iReached ?_; (exact HR1.out)))
              go_round
              case measure => simp [intOf]; omega
              case rel => exact ⟨j + 1, by omega, by go_num, by rw [HYES.out (by simp)]; exact HSET.out _ HV4.out _⟩)
          · cases o <;> (
              go_wp2_with (first | (go_at_call 92; refine (AH.out _).mono ?_; rintro e w4 ⟨rfl, hb4⟩; have HV4 := hide (HV3.out.below hb4); obtain ⟨q1, q2⟩ := HX.out _ HV4.out; have f1 := HV4.out.fd.frozen (64 + x); have f2 := HV4.out.fd.frozen x; clear hb4) | (refine wpList_load_bs rfl 98 _ rfl _ _ rfl 6 (hb r.h) _ ?_ Try.uHeld rfl Try.iHeld ?_; (exact HRR3.out.heldB)) | (go_at_call 74; refine (AN.out _).mono ?_; rintro e w3 ⟨rfl, hb3⟩; have HV3 := hide (HV2.out.below hb3); have HRR3 := hide (HRR2.out.below hb3); clear hb3) | (refine wpList_load_mid rfl 97 _ rfl _ _ rfl [.bool k.hd, .string k.s, .slice (some ⟨k.lg, 0, none⟩) k.s.size k.s.size] _ ?_ Try.underlying97 rfl Try.iCode ?_; (exact HV2.out.k.code3)) | (go_at_call 75; refine (AA.out _).mono ?_; rintro e w2 ⟨rfl, hb2⟩; have HV2 := hide (HV1.out.below hb2); have HRR2 := hide (HRR1.out.below hb2); have p2 : w2.cell? ⟨wr.heap.size, 0, none⟩ = some (.int .i64 (r.p : Int)) := HRR2.out.cell 0 (rcA_p r); clear hb2) | (refine wpList_load_mid rfl 97 _ rfl _ _ rfl [.bool k.hd, .string k.s, .slice (some ⟨k.lg, 0, none⟩) k.s.size k.s.size] _ ?_ Try.underlying97 rfl Try.iCode ?_; (exact HV1.out.k.code3)) | (refine wpList_store_row rfl 118 _ _ rfl wr.heap.size (rcA r) rfl rfl 118 #[.int .i64 0, .bool false, .bool false, .bool false, .bool false, .bool false, .bool false, .bool false, .int .i64 0, .bool false] ?_ (Try.iRc _) rfl (rcA_one _) ?_; (exact (Row.new wr #[.int .i64 0, .bool false, .bool false, .bool false, .bool false, .bool false, .bool false, .bool false, .int .i64 0, .bool false] 118).raw); rw [World.setRow_alloc_new]; have HV1 := hide (HV.out.below (below_one wr (.cells (rcA r) 118))); have HRR1 := hide (Row.new wr (rcA r) 118); generalize wr.alloc (.cells (rcA r) 118) = w1 at *; have p1 : w1.cell? ⟨wr.heap.size, 0, none⟩ = some (.int .i64 (r.p : Int)) := HRR1.out.cell 0 (rcA_p r)) | (refine wpList_load_mid rfl 118 _ rfl _ _ rfl (rcV r) _ ?_ Try.underlying118 rfl Try.iReached ?_; (exact HR1.out)))
              go_round
              case measure => simp [intOf]; omega
              case rel => exact ⟨j + 1, by omega, by go_num, by rw [HYES.out (by simp)]; exact HSET.out _ HV4.out _⟩)
        · have HN := hide hn
          have hn' : (n == (c : Int)) = false := by simpa using hn
          rcases ha with rfl | rfl
          · go_wp2_with (first | (go_at_call 92; refine (AH.out _).mono ?_; rintro e w4 ⟨rfl, hb4⟩; have HV4 := hide (HV3.out.below hb4); obtain ⟨q1, q2⟩ := HX.out _ HV4.out; have f1 := HV4.out.fd.frozen (64 + x); have f2 := HV4.out.fd.frozen x; clear hb4) | (refine wpList_load_bs rfl 98 _ rfl _ _ rfl 6 (hb r.h) _ ?_ Try.uHeld rfl Try.iHeld ?_; (exact HRR3.out.heldB)) | (go_at_call 74; refine (AN.out _).mono ?_; rintro e w3 ⟨rfl, hb3⟩; have HV3 := hide (HV2.out.below hb3); have HRR3 := hide (HRR2.out.below hb3); clear hb3) | (refine wpList_load_mid rfl 97 _ rfl _ _ rfl [.bool k.hd, .string k.s, .slice (some ⟨k.lg, 0, none⟩) k.s.size k.s.size] _ ?_ Try.underlying97 rfl Try.iCode ?_; (exact HV2.out.k.code3)) | (go_at_call 75; refine (AA.out _).mono ?_; rintro e w2 ⟨rfl, hb2⟩; have HV2 := hide (HV1.out.below hb2); have HRR2 := hide (HRR1.out.below hb2); have p2 : w2.cell? ⟨wr.heap.size, 0, none⟩ = some (.int .i64 (r.p : Int)) := HRR2.out.cell 0 (rcA_p r); clear hb2) | (refine wpList_load_mid rfl 97 _ rfl _ _ rfl [.bool k.hd, .string k.s, .slice (some ⟨k.lg, 0, none⟩) k.s.size k.s.size] _ ?_ Try.underlying97 rfl Try.iCode ?_; (exact HV1.out.k.code3)) | (refine wpList_store_row rfl 118 _ _ rfl wr.heap.size (rcA r) rfl rfl 118 #[.int .i64 0, .bool false, .bool false, .bool false, .bool false, .bool false, .bool false, .bool false, .int .i64 0, .bool false] ?_ (Try.iRc _) rfl (rcA_one _) ?_; (exact (Row.new wr #[.int .i64 0, .bool false, .bool false, .bool false, .bool false, .bool false, .bool false, .bool false, .int .i64 0, .bool false] 118).raw); rw [World.setRow_alloc_new]; have HV1 := hide (HV.out.below (below_one wr (.cells (rcA r) 118))); have HRR1 := hide (Row.new wr (rcA r) 118); generalize wr.alloc (.cells (rcA r) 118) = w1 at *; have p1 : w1.cell? ⟨wr.heap.size, 0, none⟩ = some (.int .i64 (r.p : Int)) := HRR1.out.cell 0 (rcA_p r)) | (refine wpList_load_mid rfl 118 _ rfl _ _ rfl (rcV r) _ ?_ Try.underlying118 rfl Try.iReached ?_; (exact HR1.out)))
            go_round
            case measure => simp [intOf]; omega
            case rel => exact ⟨j + 1, by omega, by go_num, by rw [HNO.out (fun h => HN.out h.2)]; exact HV4.out⟩
          · go_wp2_with (first | (go_at_call 92; refine (AH.out _).mono ?_; rintro e w4 ⟨rfl, hb4⟩; have HV4 := hide (HV3.out.below hb4); obtain ⟨q1, q2⟩ := HX.out _ HV4.out; have f1 := HV4.out.fd.frozen (64 + x); have f2 := HV4.out.fd.frozen x; clear hb4) | (refine wpList_load_bs rfl 98 _ rfl _ _ rfl 6 (hb r.h) _ ?_ Try.uHeld rfl Try.iHeld ?_; (exact HRR3.out.heldB)) | (go_at_call 74; refine (AN.out _).mono ?_; rintro e w3 ⟨rfl, hb3⟩; have HV3 := hide (HV2.out.below hb3); have HRR3 := hide (HRR2.out.below hb3); clear hb3) | (refine wpList_load_mid rfl 97 _ rfl _ _ rfl [.bool k.hd, .string k.s, .slice (some ⟨k.lg, 0, none⟩) k.s.size k.s.size] _ ?_ Try.underlying97 rfl Try.iCode ?_; (exact HV2.out.k.code3)) | (go_at_call 75; refine (AA.out _).mono ?_; rintro e w2 ⟨rfl, hb2⟩; have HV2 := hide (HV1.out.below hb2); have HRR2 := hide (HRR1.out.below hb2); have p2 : w2.cell? ⟨wr.heap.size, 0, none⟩ = some (.int .i64 (r.p : Int)) := HRR2.out.cell 0 (rcA_p r); clear hb2) | (refine wpList_load_mid rfl 97 _ rfl _ _ rfl [.bool k.hd, .string k.s, .slice (some ⟨k.lg, 0, none⟩) k.s.size k.s.size] _ ?_ Try.underlying97 rfl Try.iCode ?_; (exact HV1.out.k.code3)) | (refine wpList_store_row rfl 118 _ _ rfl wr.heap.size (rcA r) rfl rfl 118 #[.int .i64 0, .bool false, .bool false, .bool false, .bool false, .bool false, .bool false, .bool false, .int .i64 0, .bool false] ?_ (Try.iRc _) rfl (rcA_one _) ?_; (exact (Row.new wr #[.int .i64 0, .bool false, .bool false, .bool false, .bool false, .bool false, .bool false, .bool false, .int .i64 0, .bool false] 118).raw); rw [World.setRow_alloc_new]; have HV1 := hide (HV.out.below (below_one wr (.cells (rcA r) 118))); have HRR1 := hide (Row.new wr (rcA r) 118); generalize wr.alloc (.cells (rcA r) 118) = w1 at *; have p1 : w1.cell? ⟨wr.heap.size, 0, none⟩ = some (.int .i64 (r.p : Int)) := HRR1.out.cell 0 (rcA_p r)) | (refine wpList_load_mid rfl 118 _ rfl _ _ rfl (rcV r) _ ?_ Try.underlying118 rfl Try.iReached ?_; (exact HR1.out)))
            go_round
            case measure => simp [intOf]; omega
            case rel => exact ⟨j + 1, by omega, by go_num, by rw [HNO.out (fun h => HN.out h.2)]; exact HV4.out⟩
      · have HA := hide ha
        have ha1 : ¬ a = 114 := fun e => ha (Or.inl e)
        have ha2 : ¬ a = 119 := fun e => ha (Or.inr e)
        clear ha
        go_wp2_with (first | (go_at_call 92; refine (AH.out _).mono ?_; rintro e w4 ⟨rfl, hb4⟩; have HV4 := hide (HV3.out.below hb4); obtain ⟨q1, q2⟩ := HX.out _ HV4.out; have f1 := HV4.out.fd.frozen (64 + x); have f2 := HV4.out.fd.frozen x; clear hb4) | (refine wpList_load_bs rfl 98 _ rfl _ _ rfl 6 (hb r.h) _ ?_ Try.uHeld rfl Try.iHeld ?_; (exact HRR3.out.heldB)) | (go_at_call 74; refine (AN.out _).mono ?_; rintro e w3 ⟨rfl, hb3⟩; have HV3 := hide (HV2.out.below hb3); have HRR3 := hide (HRR2.out.below hb3); clear hb3) | (refine wpList_load_mid rfl 97 _ rfl _ _ rfl [.bool k.hd, .string k.s, .slice (some ⟨k.lg, 0, none⟩) k.s.size k.s.size] _ ?_ Try.underlying97 rfl Try.iCode ?_; (exact HV2.out.k.code3)) | (go_at_call 75; refine (AA.out _).mono ?_; rintro e w2 ⟨rfl, hb2⟩; have HV2 := hide (HV1.out.below hb2); have HRR2 := hide (HRR1.out.below hb2); have p2 : w2.cell? ⟨wr.heap.size, 0, none⟩ = some (.int .i64 (r.p : Int)) := HRR2.out.cell 0 (rcA_p r); clear hb2) | (refine wpList_load_mid rfl 97 _ rfl _ _ rfl [.bool k.hd, .string k.s, .slice (some ⟨k.lg, 0, none⟩) k.s.size k.s.size] _ ?_ Try.underlying97 rfl Try.iCode ?_; (exact HV1.out.k.code3)) | (refine wpList_store_row rfl 118 _ _ rfl wr.heap.size (rcA r) rfl rfl 118 #[.int .i64 0, .bool false, .bool false, .bool false, .bool false, .bool false, .bool false, .bool false, .int .i64 0, .bool false] ?_ (Try.iRc _) rfl (rcA_one _) ?_; (exact (Row.new wr #[.int .i64 0, .bool false, .bool false, .bool false, .bool false, .bool false, .bool false, .bool false, .int .i64 0, .bool false] 118).raw); rw [World.setRow_alloc_new]; have HV1 := hide (HV.out.below (below_one wr (.cells (rcA r) 118))); have HRR1 := hide (Row.new wr (rcA r) 118); generalize wr.alloc (.cells (rcA r) 118) = w1 at *; have p1 : w1.cell? ⟨wr.heap.size, 0, none⟩ = some (.int .i64 (r.p : Int)) := HRR1.out.cell 0 (rcA_p r)) | (refine wpList_load_mid rfl 118 _ rfl _ _ rfl (rcV r) _ ?_ Try.underlying118 rfl Try.iReached ?_; (exact HR1.out)))
        go_round
        case measure => simp [intOf]; omega
        case rel => exact ⟨j + 1, by omega, by go_num, by rw [HNO.out (fun h => HA.out h.1)]; exact HV4.out⟩
    · have e : j = k.L.length := by omega
      subst e
      rw [List.take_length] at HV
      obtain ⟨z, hz⟩ : ∃ z, visP k.s.data.toList c k.L = z := ⟨_, rfl⟩
      have HZE := hide hz
      rw [hz] at HV
      clear hz
      go_wp2_with (first | (refine wpList_load_row rfl 143 _ rfl _ rfl 143 (viA z) (0, 0) _ ?_ Try.underlying143 rfl (Try.iVi _) ?_; (exact HV.out.fd.raw)) | (refine wpList_store_row rfl 143 _ _ rfl (w.heap.size + 1) (viA z) rfl rfl 143 (viA noVi) ?_ (Try.iVi _) (by rw [viA_size, viA_size]) (viA_one _) ?_; (exact HV.out.res.raw)))
      exact bodyPost_ret (v := .agg (viA z)) (results_cell_row Try.results72 _ _ (w.heap.size + 1) 143 _ (0, 0) _ rfl (HV.out.res.setRow _).raw Try.underlying143 rfl (Try.iVi _)) rfl ⟨by rw [HZE.out], below_setRow HV.out.b (by omega) _⟩
end Go.Proofs.Ytecmfdkhcffpmab
/- Contracts of the program's reports: a table is gone round. -/
namespace Go.Proofs.Ytecmfdkhcffpmab
open Go.RowKit
set_option linter.unusedSimpArgs false
set_option linter.unusedVariables false
set_option maxHeartbeats 8000000
open Mc

set_option maxRecDepth 100000 in
theorem far_any (T : Tb) (w : World) :
    Calls Try.prog 55 #[.agg (tbA T)] w fun e w' => e = .returned (.agg (tbA (fwK T 6))) ∧ Below w.heap.size w w' := by
  have ZA := hide (Row.two w (tbA T) (tbA (fun _ _ => false)) 89 89)
  have ZB := hide (below_two w (.cells (tbA T) 89) (.cells (tbA (fun _ _ => false)) 89))
  go_enter Try.func55, Try.ntmps55
  go_wp2_with (first | (refine wpList_allocT rfl rfl ?_))
  generalize (w.alloc (.cells (tbA T) 89)).alloc (.cells (tbA (fun _ _ => false)) 89) = W at *
  go_loopw [6] (fun c wr => ∃ k : Nat, k ≤ 6 ∧ c = .int .i64 k ∧ Row wr w.heap.size (tbA (fwK T k)) 89 ∧ Row wr (w.heap.size + 1) (tbA (fun _ _ => false)) 89 ∧ Below w.heap.size w wr) (fun c _ => 6 - (intOf c).toNat)
  case atStart => exact ⟨0, by omega, rfl, ZA.out.1, ZA.out.2, ZB.out⟩
  case round =>
    clear ZA ZB
    obtain ⟨k, hk, rfl, h1, h2, h3⟩ := hrel
    have H1 := hide h1
    have H2 := hide h2
    have H3 := hide h3
    clear h1 h2 h3
    by_cases hkt : k < 6
    · have hk0 : (0 : Int) ≤ (k : Int) := by omega
      go_wp2
      go_loopw [9] (fun c wr => ∃ i : Nat, i ≤ 6 ∧ c = .int .i64 i ∧ Row wr w.heap.size (tbA (fwI (fwK T k) k i)) 89 ∧ Row wr (w.heap.size + 1) (tbA (fun _ _ => false)) 89 ∧ Below w.heap.size w wr) (fun c _ => 6 - (intOf c).toNat)
      case atStart => exact ⟨0, by omega, rfl, H1.out, H2.out, H3.out⟩
      case round =>
        clear H1 H2 H3
        obtain ⟨i, hi, rfl, h1, h2, h3⟩ := hrel
        have H1 := hide h1
        have H2 := hide h2
        have H3 := hide h3
        clear h1 h2 h3
        by_cases hit : i < 6
        · have hi0 : (0 : Int) ≤ (i : Int) := by omega
          go_wp2
          go_loopw [12] (fun c wr => ∃ j : Nat, j ≤ 6 ∧ c = .int .i64 j ∧ Row wr w.heap.size (tbA (fwJ (fwI (fwK T k) k i) k i j)) 89 ∧ Row wr (w.heap.size + 1) (tbA (fun _ _ => false)) 89 ∧ Below w.heap.size w wr) (fun c _ => 6 - (intOf c).toNat)
          case atStart => exact ⟨0, by omega, rfl, H1.out, H2.out, H3.out⟩
          case round =>
            clear H1 H2 H3
            obtain ⟨j, hj, rfl, h1, h2, h3⟩ := hrel
            have H1 := hide h1
            have H2 := hide h2
            have H3 := hide h3
            clear h1 h2 h3
            by_cases hjt : j < 6
            · have c1 : wr.cell? ⟨w.heap.size, i * 6 + k, none⟩ = some (.bool (fwJ (fwI (fwK T k) k i) k i j i k)) := H1.out.cell _ (tbA_at _ _ _ hit hkt)
              have c2 : wr.cell? ⟨w.heap.size, k * 6 + j, none⟩ = some (.bool (fwJ (fwI (fwK T k) k i) k i j k j)) := H1.out.cell _ (tbA_at _ _ _ hkt hjt)
              have c3 : wr.cell? ⟨w.heap.size, i * 6 + j, none⟩ = some (.bool (fwJ (fwI (fwK T k) k i) k i j i j)) := H1.out.cell _ (tbA_at _ _ _ hit hjt)
              have f3 := H1.out.frozen (i * 6 + j)
              have hj0 : (0 : Int) ≤ (j : Int) := by omega
              have hset := hide (tbA_set (fwJ (fwI (fwK T k) k i) k i j) i j hit hjt true)
              have hyes := hide (fwJ_yes (fwI (fwK T k) k i) k i j)
              have hno := hide (fwJ_no (fwI (fwK T k) k i) k i j)
              generalize fwJ (fwI (fwK T k) k i) k i j i j = o0 at *
              generalize fwJ (fwI (fwK T k) k i) k i j i k = o1 at *
              generalize fwJ (fwI (fwK T k) k i) k i j k j = o2 at *
              cases o1 <;> cases o2 <;> (
                go_wp2
                go_round
                case measure => simp [intOf]; omega
                case rel =>
                  first
                  | exact ⟨j + 1, by omega, by go_num, by rw [hno.out rfl]; exact H1.out, H2.out, H3.out⟩
                  | exact ⟨j + 1, by omega, by go_num, by rw [hyes.out rfl, ← hset.out]; exact H1.out.set _ _, H2.out.setO (by omega) _ _, H3.out.setCell (Nat.le_refl _) _⟩)
            · have e : j = 6 := by omega
              subst e
              go_wp2
              go_round
              case measure => simp [intOf]; omega
              case rel => exact ⟨i + 1, by omega, by go_num, H1.out, H2.out, H3.out⟩
        · have e : i = 6 := by omega
          subst e
          go_wp2
          go_round
          case measure => simp [intOf]; omega
          case rel => exact ⟨k + 1, by omega, by go_num, H1.out, H2.out, H3.out⟩
    · have e : k = 6 := by omega
      subst e
      go_wp2_with (first | (refine wpList_load_row rfl 89 _ rfl _ rfl 89 (tbA (fwK T 6)) (0, 0) _ ?_ Try.underlying89 rfl (Try.iTb _) ?_; (exact H1.out.raw)) | (refine wpList_store_row rfl 89 _ _ rfl (w.heap.size + 1) (tbA (fwK T 6)) rfl rfl 89 (tbA (fun _ _ => false)) ?_ (Try.iTb _) (by rw [tbA_size, tbA_size]) (tbA_one _) ?_; (exact H2.out.raw)))
      exact bodyPost_ret (v := .agg (tbA (fwK T 6))) (results_cell_row Try.results55 _ _ (w.heap.size + 1) 89 _ (0, 0) _ rfl (H2.out.setRow _).raw Try.underlying89 rfl (Try.iTb _)) rfl ⟨rfl, below_setRow H3.out (by omega) _⟩
end Go.Proofs.Ytecmfdkhcffpmab
