/- Contract: what stands in front of and behind a body. -/
import Derived.Test.YtecmfdkhcffpmabKwV
import Derived.Test.YtecmfdkhcffpmabB24
import Derived.BigRegion
import Derived.BigQuiet
import Derived.Deep.QuietTactic
namespace Go.Proofs.Ytecmfdkhcffpmab
open Go.RowKit
set_option linter.unusedSimpArgs false
set_option linter.unusedVariables false
set_option maxHeartbeats 8000000
open Wd

theorem Try.iBoth : (Try.prog.info? 55).map (·.size) = some 2 := by kernel_rfl
theorem mkS_sub (o : List UInt8) (i j : Nat) : (Wd.mkS o).extract i j = Wd.mkS ((o.drop i).take (j - i)) := by
  apply ByteArray.ext
  simp [Wd.mkS, ByteArray.data_extract]
theorem mkS_one (o : List UInt8) (i : Nat) : (Wd.mkS o).extract i (i + 1) = Wd.mkS ((o.drop i).take 1) := by rw [mkS_sub, show i + 1 - i = 1 by omega]
/-- The k-th of the names; nothing of the 0-th. -/
def nmK (names : List UInt8) : Nat → List UInt8
  | 0 => []
  | a + 1 => (names.drop a).take 1
def plK (pl : Nat → List UInt8) : Nat → List UInt8
  | 0 => []
  | a + 1 => pl a
/-- While it is put together. -/
structure WiI (w W : World) (go : Nat) (g : Nat) (f p : List UInt8) : Prop where
  res : Row W w.heap.size #[.string ⟨#[]⟩, .string ⟨#[]⟩] 55
  out : Row W go #[.string (Wd.mkS f), .string (Wd.mkS p)] 55
  ne : go = w.heap.size + 1
  b : Below w.heap.size w W
theorem WiI.f {w W : World} {go g : Nat} {f p : List UInt8} (h : WiI w W go g f p) (x : List UInt8) : WiI w (W.setCell ⟨go, 0, none⟩ (.string (Wd.mkS x))).drew go g x p :=
  ⟨(h.res.setO (by have := h.ne; omega) _ _), (h.out.set 0 _), h.ne, (h.b.setCell (by have := h.ne; show w.heap.size ≤ go; omega) _).drew⟩
theorem WiI.p {w W : World} {go g : Nat} {f p : List UInt8} (h : WiI w W go g f p) (x : List UInt8) : WiI w (W.setCell ⟨go, 1, none⟩ (.string (Wd.mkS x))).drew go g f x :=
  ⟨(h.res.setO (by have := h.ne; omega) _ _), (h.out.set 1 _), h.ne, (h.b.setCell (by have := h.ne; show w.heap.size ≤ go; omega) _).drew⟩
theorem ret_both {a b c d : List UInt8} (h : a = c) (h2 : b = d) : Ending.returned (.agg #[.string (Wd.mkS a), .string (Wd.mkS b)]) = .returned (.agg #[.string (Wd.mkS c), .string (Wd.mkS d)]) := by rw [h, h2]
set_option maxRecDepth 100000 in
theorem with_11 (body names : List UInt8) (n : Nat) (lv : Value) (g cap : Nat) (pl : Nat → List UInt8) (raw : Int) (a b : Nat) (w : World) (hr0 : -9223372036854775808 ≤ raw) (hr1 : raw ≤ 9223372036854775807) (hn : n ≤ 3) (hb : body.length ≤ 100) (hnm : n ≤ names.length) (hnl : names.length ≤ 10)
    (hlv : lv = .slice (some ⟨g, 0, none⟩) n cap) (hpl : ∀ i, i < n → g < w.heap.size ∧ w.cell? ⟨g, i * 2 + 1, none⟩ = some (.string (Wd.mkS (pl i))) ∧ (pl i).length ≤ 100)
    (ha : (pickP raw 1048576).toNat % (n + 1) = a + 1) (hbb : (pickP raw 1048576).toNat / (n + 1) % (n + 1) = b + 1) :
    Calls Try.prog 22 #[.string (Wd.mkS body), lv, .string (Wd.mkS names), .int .i64 raw] w fun e w' => e = .returned (.agg #[.string (Wd.mkS (nmK names (a + 1) ++ (body ++ nmK names (b + 1)))), .string (Wd.mkS (plK pl (a + 1) ++ (body ++ plK pl (b + 1))))]) ∧ Below w.heap.size w w' := by
  subst hlv
  have hp := pickP_bd raw 1048576 (by decide)
  obtain ⟨v, hv⟩ : ∃ v : Nat, pickP raw 1048576 = v := ⟨(pickP raw 1048576).toNat, by omega⟩
  have hv2 : v < 1048576 := by omega
  rw [hv, Int.toNat_natCast] at ha hbb
  have AP := fun W => pick_any raw 1048576 W hr0 hr1 (by decide) (by decide)
  simp only [hv] at AP
  have HAP := hide AP
  clear AP hv
  have hal : a < n := by have := Nat.mod_lt v (show 0 < n + 1 by omega); omega
  have hbl : b < n := by have := Nat.mod_lt (v / (n + 1)) (show 0 < n + 1 by omega); omega
  obtain ⟨N, hN⟩ : ∃ N : Int, (n : Int) + 1 = N := ⟨_, rfl⟩
  have m1 : (v : Int) % N = (a : Int) + 1 := by
    rw [← hN]
    have : ((v % (n + 1) : Nat) : Int) = ((a + 1 : Nat) : Int) := by rw [ha]
    simpa using this
  have m2 : ((v : Int) / N) % N = (b : Int) + 1 := by
    rw [← hN]
    have : ((v / (n + 1) % (n + 1) : Nat) : Int) = ((b + 1 : Nat) : Int) := by rw [hbb]
    simpa using this
  obtain ⟨q, hq⟩ : ∃ q : Nat, v / (n + 1) = q := ⟨_, rfl⟩
  have hqv : q ≤ v := by rw [← hq]; exact Nat.div_le_self _ _
  have m3 : (v : Int) / N = q := by rw [← hN, ← hq]; simp
  rw [m3] at m2
  have t1 : (v : Int).tmod N = (a : Int) + 1 := by rw [Int.tmod_eq_emod_of_nonneg (by omega)]; exact m1
  have t3 : (v : Int).tdiv N = q := by rw [Int.tdiv_eq_ediv_of_nonneg (by omega)]; exact m3
  have t2 : (q : Int).tmod N = (b : Int) + 1 := by rw [Int.tmod_eq_emod_of_nonneg (by omega)]; exact m2
  have hN0 : (N == 0) = false := by simp; omega
  have hN1 : 0 < N := by omega
  have hN4 : N ≤ 4 := by omega
  have HN := hide hN
  clear ha hbb hq
  have s1 := Wd.mkS_size body
  have s2 := Wd.mkS_size names
  obtain ⟨ha1, ha2, ha3⟩ := hpl a hal
  have s3 := Wd.mkS_size (pl a)
  have HA2 : Hid (∀ W : World, Below w.heap.size w W → W.cell? ⟨g, a * 2 + 1, none⟩ = some (.string (Wd.mkS (pl a)))) := hide (fun W hW => by rw [hW.cell (by exact ha1)]; exact ha2)
  obtain ⟨hb1, hb2, hb3⟩ := hpl b hbl
  have s4 := Wd.mkS_size (pl b)
  have HB2 : Hid (∀ W : World, Below w.heap.size w W → W.cell? ⟨g, b * 2 + 1, none⟩ = some (.string (Wd.mkS (pl b)))) := hide (fun W hW => by rw [hW.cell (by exact hb1)]; exact hb2)
  have HR0 := hide (Row.new w #[.string ⟨#[]⟩, .string ⟨#[]⟩] 55)
  have HB0 := hide (below_one w (.cells #[.string ⟨#[]⟩, .string ⟨#[]⟩] 55))
  go_enter Try.func22, Try.ntmps22
  go_wp2_with (first | (go_at_call 10; refine (HAP.out _).mono ?_; rintro e w' ⟨rfl, hww⟩; obtain rfl := hww.symm; clear hww))
  have HWI : Hid (WiI w ((w.alloc (.cells #[.string ⟨#[]⟩, .string ⟨#[]⟩] 55)).alloc (.cells #[.string (Wd.mkS body), .string (Wd.mkS body)] 55)) (w.heap.size + 1) g body body) := hide ⟨HR0.out.alloc _, (by have := Row.new (w.alloc (.cells #[.string ⟨#[]⟩, .string ⟨#[]⟩] 55)) #[.string (Wd.mkS body), .string (Wd.mkS body)] 55; rw [show (w.alloc (.cells #[.string ⟨#[]⟩, .string ⟨#[]⟩] 55)).heap.size = w.heap.size + 1 by simp] at this; exact this), rfl, HB0.out.alloc HB0.out.size _⟩
  generalize (w.alloc (.cells #[.string ⟨#[]⟩, .string ⟨#[]⟩] 55)).alloc (.cells #[.string (Wd.mkS body), .string (Wd.mkS body)] 55) = W0 at *
  clear HR0 HB0
  obtain ⟨go, hgo⟩ : ∃ go, w.heap.size + 1 = go := ⟨_, rfl⟩
  rw [hgo] at HWI ⊢
  have HGO := hide hgo
  clear hgo
  have k1 : IntKind.i64.wrap ((a : Int) + 1 - 1) = (a : Int) := by rw [IntKind.wrap_i64]; omega
  have k3 : IntKind.i64.wrap (a : Int) = (a : Int) := by rw [IntKind.wrap_i64]; omega
  have k5 : (a : Int) + 1 ≤ (names.length : Int) := by omega
  have k7 : (a : Int) < (n : Int) := by omega
  have k2 : IntKind.i64.wrap ((b : Int) + 1 - 1) = (b : Int) := by rw [IntKind.wrap_i64]; omega
  have k4 : IntKind.i64.wrap (b : Int) = (b : Int) := by rw [IntKind.wrap_i64]; omega
  have k6 : (b : Int) + 1 ≤ (names.length : Int) := by omega
  have k8 : (b : Int) < (n : Int) := by omega
  have c0 : W0.cell? ⟨go, 0, none⟩ = some (.string (Wd.mkS (body))) := HWI.out.out.cell 0 rfl
  have f0 := HWI.out.out.frozen 0
  have sz0 := Wd.mkS_size (body)
  go_region
  rw [mkS_one, mkS_app]
  have HWI' := hide (HWI.out.f (((names.drop a).take 1) ++ (body)))
  clear c0 f0 HWI sz0
  have HWI := HWI'
  clear HWI'
  have hlF0 : (((names.drop a).take 1) ++ (body)).length ≤ 101 := by simp only [List.length_append, List.length_take, List.length_drop]; omega
  obtain ⟨F0, hF0⟩ : ∃ X, ((names.drop a).take 1) ++ (body) = X := ⟨_, rfl⟩
  rw [hF0] at HWI hlF0 ⊢
  have HF0 := hide hF0
  clear hF0
  generalize (W0.setCell ⟨go, 0, none⟩ (.string (Wd.mkS F0))).drew = W1 at *
  go_wp2_with fail
  have c1 : W1.cell? ⟨go, 1, none⟩ = some (.string (Wd.mkS (body))) := HWI.out.out.cell 1 rfl
  have f1 := HWI.out.out.frozen 1
  have sz1 := Wd.mkS_size (body)
  have x2 := HA2.out W1 HWI.out.b
  go_region
  rw [mkS_app]
  have HWI' := hide (HWI.out.p (pl a ++ (body)))
  clear c1 f1 x2 HWI sz1
  have HWI := HWI'
  clear HWI'
  have hlF1 : (pl a ++ (body)).length ≤ 200 := by simp only [List.length_append, List.length_take, List.length_drop]; omega
  obtain ⟨F1, hF1⟩ : ∃ X, pl a ++ (body) = X := ⟨_, rfl⟩
  rw [hF1] at HWI hlF1 ⊢
  have HF1 := hide hF1
  clear hF1
  generalize (W1.setCell ⟨go, 1, none⟩ (.string (Wd.mkS F1))).drew = W2 at *
  go_wp2_with fail
  have c0 : W2.cell? ⟨go, 0, none⟩ = some (.string (Wd.mkS (F0))) := HWI.out.out.cell 0 rfl
  have f0 := HWI.out.out.frozen 0
  have sz2 := Wd.mkS_size (F0)
  go_region
  rw [mkS_one, mkS_app]
  have HWI' := hide (HWI.out.f ((F0) ++ ((names.drop b).take 1)))
  clear c0 f0 HWI sz2
  have HWI := HWI'
  clear HWI'
  have hlF2 : ((F0) ++ ((names.drop b).take 1)).length ≤ 102 := by simp only [List.length_append, List.length_take, List.length_drop]; omega
  obtain ⟨F2, hF2⟩ : ∃ X, (F0) ++ ((names.drop b).take 1) = X := ⟨_, rfl⟩
  rw [hF2] at HWI hlF2 ⊢
  have HF2 := hide hF2
  clear hF2
  generalize (W2.setCell ⟨go, 0, none⟩ (.string (Wd.mkS F2))).drew = W3 at *
  go_wp2_with fail
  have c1 : W3.cell? ⟨go, 1, none⟩ = some (.string (Wd.mkS (F1))) := HWI.out.out.cell 1 rfl
  have f1 := HWI.out.out.frozen 1
  have sz3 := Wd.mkS_size (F1)
  have x2 := HB2.out W3 HWI.out.b
  go_region
  rw [mkS_app]
  have HWI' := hide (HWI.out.p ((F1) ++ pl b))
  clear c1 f1 x2 HWI sz3
  have HWI := HWI'
  clear HWI'
  have hlF3 : ((F1) ++ pl b).length ≤ 300 := by simp only [List.length_append, List.length_take, List.length_drop]; omega
  obtain ⟨F3, hF3⟩ : ∃ X, (F1) ++ pl b = X := ⟨_, rfl⟩
  rw [hF3] at HWI hlF3 ⊢
  have HF3 := hide hF3
  clear hF3
  generalize (W3.setCell ⟨go, 1, none⟩ (.string (Wd.mkS F3))).drew = W4 at *
  have c0 : W4.cell? ⟨go, 0, none⟩ = some (.string (Wd.mkS (F2))) := HWI.out.out.cell 0 rfl
  have c1 : W4.cell? ⟨go, 1, none⟩ = some (.string (Wd.mkS (F3))) := HWI.out.out.cell 1 rfl
  go_wp2_with (first | (refine wpList_store_row rfl 55 _ _ rfl w.heap.size #[.string (Wd.mkS F2), .string (Wd.mkS F3)] rfl rfl 55 #[.string ⟨#[]⟩, .string ⟨#[]⟩] ?_ Try.iBoth rfl (by simp [Value.oneCell']) ?_; (exact HWI.out.res.raw)))
  exact bodyPost_ret (v := .agg #[.string (Wd.mkS (F2)), .string (Wd.mkS (F3))]) (results_cell_row Try.results22 _ _ w.heap.size 55 _ (0, 0) _ rfl (HWI.out.res.setRow _).raw Try.underlying55 rfl Try.iBoth) rfl ⟨ret_both (by rw [← HF2.out, ← HF0.out]; simp [nmK]) (by rw [← HF3.out, ← HF1.out]; simp [plK]), below_setRow HWI.out.b (Nat.le_refl _) _⟩
set_option maxRecDepth 100000 in
theorem with_10 (body names : List UInt8) (n : Nat) (lv : Value) (g cap : Nat) (pl : Nat → List UInt8) (raw : Int) (a b : Nat) (w : World) (hr0 : -9223372036854775808 ≤ raw) (hr1 : raw ≤ 9223372036854775807) (hn : n ≤ 3) (hb : body.length ≤ 100) (hnm : n ≤ names.length) (hnl : names.length ≤ 10)
    (hlv : lv = .slice (some ⟨g, 0, none⟩) n cap) (hpl : ∀ i, i < n → g < w.heap.size ∧ w.cell? ⟨g, i * 2 + 1, none⟩ = some (.string (Wd.mkS (pl i))) ∧ (pl i).length ≤ 100)
    (ha : (pickP raw 1048576).toNat % (n + 1) = a + 1) (hbb : (pickP raw 1048576).toNat / (n + 1) % (n + 1) = 0) :
    Calls Try.prog 22 #[.string (Wd.mkS body), lv, .string (Wd.mkS names), .int .i64 raw] w fun e w' => e = .returned (.agg #[.string (Wd.mkS (nmK names (a + 1) ++ (body ++ nmK names 0))), .string (Wd.mkS (plK pl (a + 1) ++ (body ++ plK pl 0)))]) ∧ Below w.heap.size w w' := by
  subst hlv
  have hp := pickP_bd raw 1048576 (by decide)
  obtain ⟨v, hv⟩ : ∃ v : Nat, pickP raw 1048576 = v := ⟨(pickP raw 1048576).toNat, by omega⟩
  have hv2 : v < 1048576 := by omega
  rw [hv, Int.toNat_natCast] at ha hbb
  have AP := fun W => pick_any raw 1048576 W hr0 hr1 (by decide) (by decide)
  simp only [hv] at AP
  have HAP := hide AP
  clear AP hv
  have hal : a < n := by have := Nat.mod_lt v (show 0 < n + 1 by omega); omega
  obtain ⟨N, hN⟩ : ∃ N : Int, (n : Int) + 1 = N := ⟨_, rfl⟩
  have m1 : (v : Int) % N = (a : Int) + 1 := by
    rw [← hN]
    have : ((v % (n + 1) : Nat) : Int) = ((a + 1 : Nat) : Int) := by rw [ha]
    simpa using this
  have m2 : ((v : Int) / N) % N = 0 := by
    rw [← hN]
    have : ((v / (n + 1) % (n + 1) : Nat) : Int) = ((0 : Nat) : Int) := by rw [hbb]
    simpa using this
  obtain ⟨q, hq⟩ : ∃ q : Nat, v / (n + 1) = q := ⟨_, rfl⟩
  have hqv : q ≤ v := by rw [← hq]; exact Nat.div_le_self _ _
  have m3 : (v : Int) / N = q := by rw [← hN, ← hq]; simp
  rw [m3] at m2
  have t1 : (v : Int).tmod N = (a : Int) + 1 := by rw [Int.tmod_eq_emod_of_nonneg (by omega)]; exact m1
  have t3 : (v : Int).tdiv N = q := by rw [Int.tdiv_eq_ediv_of_nonneg (by omega)]; exact m3
  have t2 : (q : Int).tmod N = 0 := by rw [Int.tmod_eq_emod_of_nonneg (by omega)]; exact m2
  have hN0 : (N == 0) = false := by simp; omega
  have hN1 : 0 < N := by omega
  have hN4 : N ≤ 4 := by omega
  have HN := hide hN
  clear ha hbb hq
  have s1 := Wd.mkS_size body
  have s2 := Wd.mkS_size names
  obtain ⟨ha1, ha2, ha3⟩ := hpl a hal
  have s3 := Wd.mkS_size (pl a)
  have HA2 : Hid (∀ W : World, Below w.heap.size w W → W.cell? ⟨g, a * 2 + 1, none⟩ = some (.string (Wd.mkS (pl a)))) := hide (fun W hW => by rw [hW.cell (by exact ha1)]; exact ha2)
  have HR0 := hide (Row.new w #[.string ⟨#[]⟩, .string ⟨#[]⟩] 55)
  have HB0 := hide (below_one w (.cells #[.string ⟨#[]⟩, .string ⟨#[]⟩] 55))
  go_enter Try.func22, Try.ntmps22
  go_wp2_with (first | (go_at_call 10; refine (HAP.out _).mono ?_; rintro e w' ⟨rfl, hww⟩; obtain rfl := hww.symm; clear hww))
  have HWI : Hid (WiI w ((w.alloc (.cells #[.string ⟨#[]⟩, .string ⟨#[]⟩] 55)).alloc (.cells #[.string (Wd.mkS body), .string (Wd.mkS body)] 55)) (w.heap.size + 1) g body body) := hide ⟨HR0.out.alloc _, (by have := Row.new (w.alloc (.cells #[.string ⟨#[]⟩, .string ⟨#[]⟩] 55)) #[.string (Wd.mkS body), .string (Wd.mkS body)] 55; rw [show (w.alloc (.cells #[.string ⟨#[]⟩, .string ⟨#[]⟩] 55)).heap.size = w.heap.size + 1 by simp] at this; exact this), rfl, HB0.out.alloc HB0.out.size _⟩
  generalize (w.alloc (.cells #[.string ⟨#[]⟩, .string ⟨#[]⟩] 55)).alloc (.cells #[.string (Wd.mkS body), .string (Wd.mkS body)] 55) = W0 at *
  clear HR0 HB0
  obtain ⟨go, hgo⟩ : ∃ go, w.heap.size + 1 = go := ⟨_, rfl⟩
  rw [hgo] at HWI ⊢
  have HGO := hide hgo
  clear hgo
  have k1 : IntKind.i64.wrap ((a : Int) + 1 - 1) = (a : Int) := by rw [IntKind.wrap_i64]; omega
  have k3 : IntKind.i64.wrap (a : Int) = (a : Int) := by rw [IntKind.wrap_i64]; omega
  have k5 : (a : Int) + 1 ≤ (names.length : Int) := by omega
  have k7 : (a : Int) < (n : Int) := by omega
  have c0 : W0.cell? ⟨go, 0, none⟩ = some (.string (Wd.mkS (body))) := HWI.out.out.cell 0 rfl
  have f0 := HWI.out.out.frozen 0
  have sz0 := Wd.mkS_size (body)
  go_region
  rw [mkS_one, mkS_app]
  have HWI' := hide (HWI.out.f (((names.drop a).take 1) ++ (body)))
  clear c0 f0 HWI sz0
  have HWI := HWI'
  clear HWI'
  have hlF0 : (((names.drop a).take 1) ++ (body)).length ≤ 101 := by simp only [List.length_append, List.length_take, List.length_drop]; omega
  obtain ⟨F0, hF0⟩ : ∃ X, ((names.drop a).take 1) ++ (body) = X := ⟨_, rfl⟩
  rw [hF0] at HWI hlF0 ⊢
  have HF0 := hide hF0
  clear hF0
  generalize (W0.setCell ⟨go, 0, none⟩ (.string (Wd.mkS F0))).drew = W1 at *
  go_wp2_with fail
  have c1 : W1.cell? ⟨go, 1, none⟩ = some (.string (Wd.mkS (body))) := HWI.out.out.cell 1 rfl
  have f1 := HWI.out.out.frozen 1
  have sz1 := Wd.mkS_size (body)
  have x2 := HA2.out W1 HWI.out.b
  go_region
  rw [mkS_app]
  have HWI' := hide (HWI.out.p (pl a ++ (body)))
  clear c1 f1 x2 HWI sz1
  have HWI := HWI'
  clear HWI'
  have hlF1 : (pl a ++ (body)).length ≤ 200 := by simp only [List.length_append, List.length_take, List.length_drop]; omega
  obtain ⟨F1, hF1⟩ : ∃ X, pl a ++ (body) = X := ⟨_, rfl⟩
  rw [hF1] at HWI hlF1 ⊢
  have HF1 := hide hF1
  clear hF1
  generalize (W1.setCell ⟨go, 1, none⟩ (.string (Wd.mkS F1))).drew = W2 at *
  have c0 : W2.cell? ⟨go, 0, none⟩ = some (.string (Wd.mkS (F0))) := HWI.out.out.cell 0 rfl
  have c1 : W2.cell? ⟨go, 1, none⟩ = some (.string (Wd.mkS (F1))) := HWI.out.out.cell 1 rfl
  go_wp2_with (first | (refine wpList_store_row rfl 55 _ _ rfl w.heap.size #[.string (Wd.mkS F0), .string (Wd.mkS F1)] rfl rfl 55 #[.string ⟨#[]⟩, .string ⟨#[]⟩] ?_ Try.iBoth rfl (by simp [Value.oneCell']) ?_; (exact HWI.out.res.raw)))
  exact bodyPost_ret (v := .agg #[.string (Wd.mkS (F0)), .string (Wd.mkS (F1))]) (results_cell_row Try.results22 _ _ w.heap.size 55 _ (0, 0) _ rfl (HWI.out.res.setRow _).raw Try.underlying55 rfl Try.iBoth) rfl ⟨ret_both (by rw [← HF0.out]; simp [nmK]) (by rw [← HF1.out]; simp [plK]), below_setRow HWI.out.b (Nat.le_refl _) _⟩
set_option maxRecDepth 100000 in
theorem with_01 (body names : List UInt8) (n : Nat) (lv : Value) (g cap : Nat) (pl : Nat → List UInt8) (raw : Int) (a b : Nat) (w : World) (hr0 : -9223372036854775808 ≤ raw) (hr1 : raw ≤ 9223372036854775807) (hn : n ≤ 3) (hb : body.length ≤ 100) (hnm : n ≤ names.length) (hnl : names.length ≤ 10)
    (hlv : lv = .slice (some ⟨g, 0, none⟩) n cap) (hpl : ∀ i, i < n → g < w.heap.size ∧ w.cell? ⟨g, i * 2 + 1, none⟩ = some (.string (Wd.mkS (pl i))) ∧ (pl i).length ≤ 100)
    (ha : (pickP raw 1048576).toNat % (n + 1) = 0) (hbb : (pickP raw 1048576).toNat / (n + 1) % (n + 1) = b + 1) :
    Calls Try.prog 22 #[.string (Wd.mkS body), lv, .string (Wd.mkS names), .int .i64 raw] w fun e w' => e = .returned (.agg #[.string (Wd.mkS (nmK names 0 ++ (body ++ nmK names (b + 1)))), .string (Wd.mkS (plK pl 0 ++ (body ++ plK pl (b + 1))))]) ∧ Below w.heap.size w w' := by
  subst hlv
  have hp := pickP_bd raw 1048576 (by decide)
  obtain ⟨v, hv⟩ : ∃ v : Nat, pickP raw 1048576 = v := ⟨(pickP raw 1048576).toNat, by omega⟩
  have hv2 : v < 1048576 := by omega
  rw [hv, Int.toNat_natCast] at ha hbb
  have AP := fun W => pick_any raw 1048576 W hr0 hr1 (by decide) (by decide)
  simp only [hv] at AP
  have HAP := hide AP
  clear AP hv
  have hbl : b < n := by have := Nat.mod_lt (v / (n + 1)) (show 0 < n + 1 by omega); omega
  obtain ⟨N, hN⟩ : ∃ N : Int, (n : Int) + 1 = N := ⟨_, rfl⟩
  have m1 : (v : Int) % N = 0 := by
    rw [← hN]
    have : ((v % (n + 1) : Nat) : Int) = ((0 : Nat) : Int) := by rw [ha]
    simpa using this
  have m2 : ((v : Int) / N) % N = (b : Int) + 1 := by
    rw [← hN]
    have : ((v / (n + 1) % (n + 1) : Nat) : Int) = ((b + 1 : Nat) : Int) := by rw [hbb]
    simpa using this
  obtain ⟨q, hq⟩ : ∃ q : Nat, v / (n + 1) = q := ⟨_, rfl⟩
  have hqv : q ≤ v := by rw [← hq]; exact Nat.div_le_self _ _
  have m3 : (v : Int) / N = q := by rw [← hN, ← hq]; simp
  rw [m3] at m2
  have t1 : (v : Int).tmod N = 0 := by rw [Int.tmod_eq_emod_of_nonneg (by omega)]; exact m1
  have t3 : (v : Int).tdiv N = q := by rw [Int.tdiv_eq_ediv_of_nonneg (by omega)]; exact m3
  have t2 : (q : Int).tmod N = (b : Int) + 1 := by rw [Int.tmod_eq_emod_of_nonneg (by omega)]; exact m2
  have hN0 : (N == 0) = false := by simp; omega
  have hN1 : 0 < N := by omega
  have hN4 : N ≤ 4 := by omega
  have HN := hide hN
  clear ha hbb hq
  have s1 := Wd.mkS_size body
  have s2 := Wd.mkS_size names
  obtain ⟨hb1, hb2, hb3⟩ := hpl b hbl
  have s4 := Wd.mkS_size (pl b)
  have HB2 : Hid (∀ W : World, Below w.heap.size w W → W.cell? ⟨g, b * 2 + 1, none⟩ = some (.string (Wd.mkS (pl b)))) := hide (fun W hW => by rw [hW.cell (by exact hb1)]; exact hb2)
  have HR0 := hide (Row.new w #[.string ⟨#[]⟩, .string ⟨#[]⟩] 55)
  have HB0 := hide (below_one w (.cells #[.string ⟨#[]⟩, .string ⟨#[]⟩] 55))
  go_enter Try.func22, Try.ntmps22
  go_wp2_with (first | (go_at_call 10; refine (HAP.out _).mono ?_; rintro e w' ⟨rfl, hww⟩; obtain rfl := hww.symm; clear hww))
  have HWI : Hid (WiI w ((w.alloc (.cells #[.string ⟨#[]⟩, .string ⟨#[]⟩] 55)).alloc (.cells #[.string (Wd.mkS body), .string (Wd.mkS body)] 55)) (w.heap.size + 1) g body body) := hide ⟨HR0.out.alloc _, (by have := Row.new (w.alloc (.cells #[.string ⟨#[]⟩, .string ⟨#[]⟩] 55)) #[.string (Wd.mkS body), .string (Wd.mkS body)] 55; rw [show (w.alloc (.cells #[.string ⟨#[]⟩, .string ⟨#[]⟩] 55)).heap.size = w.heap.size + 1 by simp] at this; exact this), rfl, HB0.out.alloc HB0.out.size _⟩
  generalize (w.alloc (.cells #[.string ⟨#[]⟩, .string ⟨#[]⟩] 55)).alloc (.cells #[.string (Wd.mkS body), .string (Wd.mkS body)] 55) = W0 at *
  clear HR0 HB0
  obtain ⟨go, hgo⟩ : ∃ go, w.heap.size + 1 = go := ⟨_, rfl⟩
  rw [hgo] at HWI ⊢
  have HGO := hide hgo
  clear hgo
  have k2 : IntKind.i64.wrap ((b : Int) + 1 - 1) = (b : Int) := by rw [IntKind.wrap_i64]; omega
  have k4 : IntKind.i64.wrap (b : Int) = (b : Int) := by rw [IntKind.wrap_i64]; omega
  have k6 : (b : Int) + 1 ≤ (names.length : Int) := by omega
  have k8 : (b : Int) < (n : Int) := by omega
  have c0 : W0.cell? ⟨go, 0, none⟩ = some (.string (Wd.mkS (body))) := HWI.out.out.cell 0 rfl
  have f0 := HWI.out.out.frozen 0
  have sz0 := Wd.mkS_size (body)
  go_region
  rw [mkS_one, mkS_app]
  have HWI' := hide (HWI.out.f ((body) ++ ((names.drop b).take 1)))
  clear c0 f0 HWI sz0
  have HWI := HWI'
  clear HWI'
  have hlF0 : ((body) ++ ((names.drop b).take 1)).length ≤ 102 := by simp only [List.length_append, List.length_take, List.length_drop]; omega
  obtain ⟨F0, hF0⟩ : ∃ X, (body) ++ ((names.drop b).take 1) = X := ⟨_, rfl⟩
  rw [hF0] at HWI hlF0 ⊢
  have HF0 := hide hF0
  clear hF0
  generalize (W0.setCell ⟨go, 0, none⟩ (.string (Wd.mkS F0))).drew = W1 at *
  go_wp2_with fail
  have c1 : W1.cell? ⟨go, 1, none⟩ = some (.string (Wd.mkS (body))) := HWI.out.out.cell 1 rfl
  have f1 := HWI.out.out.frozen 1
  have sz1 := Wd.mkS_size (body)
  have x2 := HB2.out W1 HWI.out.b
  go_region
  rw [mkS_app]
  have HWI' := hide (HWI.out.p ((body) ++ pl b))
  clear c1 f1 x2 HWI sz1
  have HWI := HWI'
  clear HWI'
  have hlF1 : ((body) ++ pl b).length ≤ 300 := by simp only [List.length_append, List.length_take, List.length_drop]; omega
  obtain ⟨F1, hF1⟩ : ∃ X, (body) ++ pl b = X := ⟨_, rfl⟩
  rw [hF1] at HWI hlF1 ⊢
  have HF1 := hide hF1
  clear hF1
  generalize (W1.setCell ⟨go, 1, none⟩ (.string (Wd.mkS F1))).drew = W2 at *
  have c0 : W2.cell? ⟨go, 0, none⟩ = some (.string (Wd.mkS (F0))) := HWI.out.out.cell 0 rfl
  have c1 : W2.cell? ⟨go, 1, none⟩ = some (.string (Wd.mkS (F1))) := HWI.out.out.cell 1 rfl
  go_wp2_with (first | (refine wpList_store_row rfl 55 _ _ rfl w.heap.size #[.string (Wd.mkS F0), .string (Wd.mkS F1)] rfl rfl 55 #[.string ⟨#[]⟩, .string ⟨#[]⟩] ?_ Try.iBoth rfl (by simp [Value.oneCell']) ?_; (exact HWI.out.res.raw)))
  exact bodyPost_ret (v := .agg #[.string (Wd.mkS (F0)), .string (Wd.mkS (F1))]) (results_cell_row Try.results22 _ _ w.heap.size 55 _ (0, 0) _ rfl (HWI.out.res.setRow _).raw Try.underlying55 rfl Try.iBoth) rfl ⟨ret_both (by rw [← HF0.out]; simp [nmK]) (by rw [← HF1.out]; simp [plK]), below_setRow HWI.out.b (Nat.le_refl _) _⟩
set_option maxRecDepth 100000 in
theorem with_00 (body names : List UInt8) (n : Nat) (lv : Value) (g cap : Nat) (pl : Nat → List UInt8) (raw : Int) (a b : Nat) (w : World) (hr0 : -9223372036854775808 ≤ raw) (hr1 : raw ≤ 9223372036854775807) (hn : n ≤ 3) (hb : body.length ≤ 100) (hnm : n ≤ names.length) (hnl : names.length ≤ 10)
    (hlv : ∃ ao, lv = .slice ao n cap) (hpl : ∀ i, i < n → g < w.heap.size ∧ w.cell? ⟨g, i * 2 + 1, none⟩ = some (.string (Wd.mkS (pl i))) ∧ (pl i).length ≤ 100)
    (ha : (pickP raw 1048576).toNat % (n + 1) = 0) (hbb : (pickP raw 1048576).toNat / (n + 1) % (n + 1) = 0) :
    Calls Try.prog 22 #[.string (Wd.mkS body), lv, .string (Wd.mkS names), .int .i64 raw] w fun e w' => e = .returned (.agg #[.string (Wd.mkS (nmK names 0 ++ (body ++ nmK names 0))), .string (Wd.mkS (plK pl 0 ++ (body ++ plK pl 0)))]) ∧ Below w.heap.size w w' := by
  obtain ⟨ao, rfl⟩ := hlv
  have hp := pickP_bd raw 1048576 (by decide)
  obtain ⟨v, hv⟩ : ∃ v : Nat, pickP raw 1048576 = v := ⟨(pickP raw 1048576).toNat, by omega⟩
  have hv2 : v < 1048576 := by omega
  rw [hv, Int.toNat_natCast] at ha hbb
  have AP := fun W => pick_any raw 1048576 W hr0 hr1 (by decide) (by decide)
  simp only [hv] at AP
  have HAP := hide AP
  clear AP hv
  obtain ⟨N, hN⟩ : ∃ N : Int, (n : Int) + 1 = N := ⟨_, rfl⟩
  have m1 : (v : Int) % N = 0 := by
    rw [← hN]
    have : ((v % (n + 1) : Nat) : Int) = ((0 : Nat) : Int) := by rw [ha]
    simpa using this
  have m2 : ((v : Int) / N) % N = 0 := by
    rw [← hN]
    have : ((v / (n + 1) % (n + 1) : Nat) : Int) = ((0 : Nat) : Int) := by rw [hbb]
    simpa using this
  obtain ⟨q, hq⟩ : ∃ q : Nat, v / (n + 1) = q := ⟨_, rfl⟩
  have hqv : q ≤ v := by rw [← hq]; exact Nat.div_le_self _ _
  have m3 : (v : Int) / N = q := by rw [← hN, ← hq]; simp
  rw [m3] at m2
  have t1 : (v : Int).tmod N = 0 := by rw [Int.tmod_eq_emod_of_nonneg (by omega)]; exact m1
  have t3 : (v : Int).tdiv N = q := by rw [Int.tdiv_eq_ediv_of_nonneg (by omega)]; exact m3
  have t2 : (q : Int).tmod N = 0 := by rw [Int.tmod_eq_emod_of_nonneg (by omega)]; exact m2
  have hN0 : (N == 0) = false := by simp; omega
  have hN1 : 0 < N := by omega
  have hN4 : N ≤ 4 := by omega
  have HN := hide hN
  clear ha hbb hq
  have s1 := Wd.mkS_size body
  have s2 := Wd.mkS_size names
  have HR0 := hide (Row.new w #[.string ⟨#[]⟩, .string ⟨#[]⟩] 55)
  have HB0 := hide (below_one w (.cells #[.string ⟨#[]⟩, .string ⟨#[]⟩] 55))
  go_enter Try.func22, Try.ntmps22
  go_wp2_with (first | (go_at_call 10; refine (HAP.out _).mono ?_; rintro e w' ⟨rfl, hww⟩; obtain rfl := hww.symm; clear hww))
  exact bodyPost_ret (v := .agg #[.string (Wd.mkS body), .string (Wd.mkS body)]) (results_cell_row Try.results22 _ _ w.heap.size 55 _ (0, 0) _ rfl ((Row.new w #[.string (Wd.mkS body), .string (Wd.mkS body)] 55).alloc _).raw Try.underlying55 rfl Try.iBoth) rfl ⟨ret_both (by simp [nmK]) (by simp [plK]), below_new (below_one w (.cells #[.string (Wd.mkS body), .string (Wd.mkS body)] 55)) _⟩
theorem with_any (body names : List UInt8) (n : Nat) (g cap : Nat) (pl : Nat → List UInt8) (raw : Int) (w : World) (hr0 : -9223372036854775808 ≤ raw) (hr1 : raw ≤ 9223372036854775807) (hn : n ≤ 3) (hb : body.length ≤ 100) (hnm : n ≤ names.length) (hnl : names.length ≤ 10) (ao : Option Addr) (hao : 0 < n → ao = some ⟨g, 0, none⟩)
    (hpl : ∀ i, i < n → g < w.heap.size ∧ w.cell? ⟨g, i * 2 + 1, none⟩ = some (.string (Wd.mkS (pl i))) ∧ (pl i).length ≤ 100) :
    Calls Try.prog 22 #[.string (Wd.mkS body), .slice ao n cap, .string (Wd.mkS names), .int .i64 raw] w fun e w' => e = .returned (.agg #[.string (Wd.mkS (nmK names ((pickP raw 1048576).toNat % (n + 1)) ++ (body ++ nmK names ((pickP raw 1048576).toNat / (n + 1) % (n + 1))))), .string (Wd.mkS (plK pl ((pickP raw 1048576).toNat % (n + 1)) ++ (body ++ plK pl ((pickP raw 1048576).toNat / (n + 1) % (n + 1)))))]) ∧ Below w.heap.size w w' := by
  have h1 := Nat.mod_lt (pickP raw 1048576).toNat (show 0 < n + 1 by omega)
  have h2 := Nat.mod_lt ((pickP raw 1048576).toNat / (n + 1)) (show 0 < n + 1 by omega)
  cases ha : (pickP raw 1048576).toNat % (n + 1) with
  | zero =>
    cases hbb : (pickP raw 1048576).toNat / (n + 1) % (n + 1) with
    | zero => exact with_00 body names n _ g cap pl raw 0 0 w hr0 hr1 hn hb hnm hnl ⟨ao, rfl⟩ hpl ha hbb
    | succ b => exact with_01 body names n _ g cap pl raw 0 b w hr0 hr1 hn hb hnm hnl (by rw [hao (by omega)]) hpl ha hbb
  | succ a =>
    cases hbb : (pickP raw 1048576).toNat / (n + 1) % (n + 1) with
    | zero => exact with_10 body names n _ g cap pl raw a 0 w hr0 hr1 hn hb hnm hnl (by rw [hao (by omega)]) hpl ha hbb
    | succ b => exact with_11 body names n _ g cap pl raw a b w hr0 hr1 hn hb hnm hnl (by rw [hao (by omega)]) hpl ha hbb
end Go.Proofs.Ytecmfdkhcffpmab
