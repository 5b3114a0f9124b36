/- Inlined: the three functions and the items as 'with' gives them; the source that has the bodies in place of the names. -/
import Derived.Test.YtecmfdkhcffpmabKwW
import Derived.Test.YtecmfdkhcffpmabKpI
namespace Go.Proofs.Ytecmfdkhcffpmab
open Go.RowKit
set_option linter.unusedSimpArgs false
set_option linter.unusedVariables false
set_option maxHeartbeats 800000
open Wd

/-- Is the other function's name in it? -/
def useB (z : Int) : Bool := decide (pickP (z.tmod 2) 1048576 = 1)
theorem tmod2 (z : Int) : z.tmod 2 = -1 ∨ z.tmod 2 = 0 ∨ z.tmod 2 = 1 := by
  have h1 := Int.tmod_lt_of_pos z (show (0 : Int) < 2 by decide)
  have h2 : (z.tmod 2).natAbs < 2 := by rw [Int.natAbs_tmod]; exact Nat.mod_lt _ (by decide)
  omega
theorem useB_v (z : Int) : (pickP (z.tmod 2) 1048576).toNat = if useB z = true then 1 else 0 := by
  unfold useB
  rcases tmod2 z with h | h | h <;> rw [h] <;> decide
/-- The three functions. -/
def inlT (bs : List (List Int)) (zs : List Int) : Thr := ⟨weaveP (bs.getD 0 []) 6, weaveP (bs.getD 1 []) 6, weaveP (bs.getD 2 []) 8, useB (zs.getD 1 0), useB (zs.getD 0 0)⟩
theorem inlT_ok (bs : List (List Int)) (zs : List Int) : (inlT bs zs).Ok :=
  ⟨(weaveP_ok _ _).1, (weaveP_ok _ _).1, (weaveP_ok _ _).1, (weaveP_ok _ _).2, (weaveP_ok _ _).2, (weaveP_ok _ _).2⟩
/-- The k-th item. -/
def inlX (hd : Bool) (st : List Int) (z : Int) : Itm := ⟨hd, weaveP st 16, (pickP z 1048576).toNat % 4, (pickP z 1048576).toNat / 4 % 4⟩
theorem inlX_ok (hd : Bool) (st : List Int) (z : Int) : (inlX hd st z).Ok := ⟨(weaveP_ok _ _).1, (weaveP_ok _ _).2⟩
theorem third_any (b : List UInt8) (w : World) (hb : b.length ≤ 100) :
    Calls Try.prog 22 #[.string (Wd.mkS b), .slice none 0 0, .string { data := #[] }, .int .i64 0] w fun e w' => e = .returned (.agg #[.string (Wd.mkS b), .string (Wd.mkS b)]) ∧ Below w.heap.size w w' := by
  refine (with_any b [] 0 0 0 (fun _ => []) 0 w (by decide) (by decide) (by decide) hb (by decide) (by decide) none (fun h => by omega) (fun i hi => by omega)).mono ?_
  rintro e w' ⟨rfl, hb⟩
  refine ⟨ret_both ?_ ?_, hb⟩
  · simp [nmK, Nat.mod_one]
  · simp [plK, Nat.mod_one]
theorem second_any (b p : List UInt8) (c : UInt8) (g : Nat) (z : Int) (w : World) (hb : b.length ≤ 100) (hp : p.length ≤ 100) (hg : g < w.heap.size) (hc : w.cell? ⟨g, 1, none⟩ = some (.string (Wd.mkS p))) :
    Calls Try.prog 22 #[.string (Wd.mkS b), .slice (some ⟨g, 0, none⟩) 1 1, .string { data := #[c] }, .int .i64 (z.tmod 2)] w fun e w' => e = .returned (.agg #[.string (Wd.mkS (nmB (useB z) c ++ b)), .string (Wd.mkS (txB (useB z) p ++ b))]) ∧ Below w.heap.size w w' := by
  have hz := tmod2 z
  refine (with_any b [c] 1 g 1 (fun _ => p) (z.tmod 2) w (by omega) (by omega) (by decide) hb (by simp) (by simp) (some ⟨g, 0, none⟩) (fun h => rfl) (fun i hi => ⟨hg, by rw [show i = 0 by omega]; exact hc, hp⟩)).mono ?_
  rintro e w' ⟨rfl, hb⟩
  refine ⟨ret_both ?_ ?_, hb⟩
  · rw [useB_v]; cases useB z <;> simp [nmK, nmB]
  · rw [useB_v]; cases useB z <;> simp [plK, txB]
theorem nmK_N (a : Nat) (h : a < 4) : nmK [65, 66, 67] a = nmN a := by
  match a, h with
  | 0, _ => rfl
  | 1, _ => rfl
  | 2, _ => rfl
  | 3, _ => rfl
def tx3 (t : Thr) (i : Nat) : List UInt8 := if i = 0 then t.p0 else if i = 1 then t.p1 else t.p2
theorem plK_N (t : Thr) (a : Nat) (h : a < 4) : plK (tx3 t) a = t.tx a := by
  match a, h with
  | 0, _ => rfl
  | 1, _ => rfl
  | 2, _ => rfl
  | 3, _ => rfl
/-- The list of the three, in memory. -/
structure Thr3 (w : World) (g : Nat) (t : Thr) : Prop where
  lt : g < w.heap.size
  c1 : w.cell? ⟨g, 1, none⟩ = some (.string (Wd.mkS t.p0))
  c3 : w.cell? ⟨g, 3, none⟩ = some (.string (Wd.mkS t.p1))
  c5 : w.cell? ⟨g, 5, none⟩ = some (.string (Wd.mkS t.p2))
theorem Thr3.below {w w' : World} {g : Nat} {t : Thr} (h : Thr3 w g t) (hb : Below w.heap.size w w') : Thr3 w' g t :=
  ⟨Nat.lt_of_lt_of_le h.lt hb.size, by rw [hb.cell h.lt]; exact h.c1, by rw [hb.cell h.lt]; exact h.c3, by rw [hb.cell h.lt]; exact h.c5⟩
theorem three_any (t : Thr) (ht : t.Ok) (hd : Bool) (st : List Int) (z : Int) (g : Nat) (w : World) (h0 : -9223372036854775808 ≤ z) (h1 : z ≤ 9223372036854775807) (h3 : Thr3 w g t) :
    Calls Try.prog 22 #[.string (Wd.mkS (weaveP st 16)), .slice (some ⟨g, 0, none⟩) 3 3, .string { data := #[65, 66, 67] }, .int .i64 z] w fun e w' => e = .returned (.agg #[.string (Wd.mkS (inlX hd st z).fold), .string (Wd.mkS ((inlX hd st z).plain t))]) ∧ Below w.heap.size w w' := by
  have l0 := Thr.len0 ht
  have l1 := Thr.len1 ht
  have l2 := Thr.len2 ht
  have lw := (weaveP_ok st 16).2
  refine (with_any (weaveP st 16) [65, 66, 67] 3 g 3 (tx3 t) z w h0 h1 (by decide) (by omega) (by decide) (by decide) (some ⟨g, 0, none⟩) (fun h => rfl) (fun i hi => ⟨h3.lt, ?_, ?_⟩)).mono ?_
  · match i, hi with
    | 0, _ => exact h3.c1
    | 1, _ => exact h3.c3
    | 2, _ => exact h3.c5
  · unfold tx3; repeat' split
    · omega
    · omega
    · omega
  · rintro e w' ⟨rfl, hb⟩
    refine ⟨ret_both ?_ ?_, hb⟩
    · rw [nmK_N _ (Nat.mod_lt _ (by decide)), nmK_N _ (Nat.mod_lt _ (by decide))]; rfl
    · rw [plK_N _ _ (Nat.mod_lt _ (by decide)), plK_N _ _ (Nat.mod_lt _ (by decide))]; rfl
/-- What stands there with the bodies in place of the names. -/
def plR (t : Thr) (xs : List Itm) : List (UInt8 × List UInt8) := xs.map fun x => (letterOf x.hd, x.plain t)
theorem wv_app {a b : List UInt8} (ha : Wv a) (hb : Wv b) : Wv (a ++ b) :=
  ⟨fun n => by rw [runS_app, ha.run]; exact hb.run n, fun c hc => by rcases List.mem_append.1 hc with h | h; exact ha.ok c h; exact hb.ok c h⟩
theorem wv_txB (u : Bool) {b : List UInt8} (h : Wv b) : Wv (txB u b) := by
  unfold txB; split
  · exact h
  · exact Wv.nil
theorem Wd.Thr.Ok.wp2 {t : Thr} (h : t.Ok) : Wv t.p2 := h.w2
theorem Wd.Thr.Ok.wp1 {t : Thr} (h : t.Ok) : Wv t.p1 := wv_app (wv_txB _ h.wp2) h.w1
theorem Wd.Thr.Ok.wp0 {t : Thr} (h : t.Ok) : Wv t.p0 := wv_app (wv_txB _ h.wp1) h.w0
theorem wv_tx {t : Thr} (h : t.Ok) (a : Nat) : Wv (t.tx a) := by
  unfold Thr.tx; repeat' split
  · exact h.wp0
  · exact h.wp1
  · exact h.wp2
  · exact Wv.nil
theorem wv_plain {t : Thr} (h : t.Ok) {x : Itm} (hx : x.Ok) : Wv (x.plain t) := wv_app (wv_tx h _) (wv_app hx.w (wv_tx h _))
theorem len_plain {t : Thr} (h : t.Ok) {x : Itm} (hx : x.Ok) : (x.plain t).length ≤ 56 := by
  unfold Itm.plain
  have := tx_len h x.a; have := tx_len h x.b; have := hx.l
  simp only [List.length_append]; omega
theorem len_fold {x : Itm} (hx : x.Ok) : x.fold.length ≤ 18 := by
  unfold Itm.fold
  have := nmN_len x.a; have := nmN_len x.b; have := hx.l
  simp only [List.length_append]; omega
theorem len_plR {t : Thr} (h : t.Ok) {xs : List Itm} (hx : ∀ x ∈ xs, x.Ok) : (flat (plR t xs)).length ≤ 59 * xs.length := by
  induction xs with
  | nil => simp [plR, flat]
  | cons x r ih =>
    have e : flat (plR t (x :: r)) = (letterOf x.hd :: 123 :: (x.plain t ++ [125])) ++ flat (plR t r) := by
      rw [show plR t (x :: r) = [(letterOf x.hd, x.plain t)] ++ plR t r from rfl, flat_app]
      congr 1
    rw [e, List.length_append]
    have := ih (fun y hy => hx y (by simp [hy]))
    have := len_plain h (hx x (by simp))
    simp only [List.length_cons, List.length_append, List.length_nil]; omega
theorem readP_pl {t : Thr} (h : t.Ok) {xs : List Itm} (hx : ∀ x ∈ xs, x.Ok) (h3 : xs.length ≤ 3) (h0 : 0 < xs.length) : readP (flat (plR t xs)) = .ok (itsR t xs) ∧ (flat (plR t xs)).length ≤ 240 := by
  have hl := len_plR h hx
  refine ⟨?_, by omega⟩
  rw [readP_woven (plR t xs) ?_ (by simp [plR]; omega) (by simp [plR]; omega) (by omega)]
  · congr 1
    unfold plR itsR
    rw [List.map_map]
    refine List.map_congr_left fun x _ => ?_
    simp only [Function.comp, itOf]
    congr 1
    unfold letterOf
    cases x.hd <;> rfl
  · intro y hy
    simp only [plR, List.mem_map] at hy
    obtain ⟨x, hxm, rfl⟩ := hy
    refine ⟨?_, wv_plain h (hx x hxm)⟩
    unfold letterOf
    cases x.hd <;> simp
end Go.Proofs.Ytecmfdkhcffpmab
