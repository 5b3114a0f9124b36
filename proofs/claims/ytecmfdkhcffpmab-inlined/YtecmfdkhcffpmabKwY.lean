/- Inlined: its walk. -/
import Derived.Test.YtecmfdkhcffpmabKwX
import Derived.Test.YtecmfdkhcffpmabKwT
import Derived.Deep.QuietTactic
import Derived.BigQuiet
import Derived.Test.YtecmfdkhcffpmabKxA
import Derived.Test.YtecmfdkhcffpmabB37
import Derived.Deep.RegionHeld3
import Derived.Deep.CutRange
namespace Go.Proofs.Ytecmfdkhcffpmab
open Go.RowKit
set_option linter.unusedSimpArgs false
set_option linter.unusedVariables false
set_option maxHeartbeats 8000000
open Wd Mc

theorem some_at (v : Value) (bs : List (List Int)) (i : Nat) (w0 w : World) (hv : BodsIn w0 v bs) (hb0 : Below w0.heap.size w0 w) (hi : i ≤ 1000) :
    Calls Try.prog 24 #[v, .int .i64 i] w fun e w' => (∃ u, e = .returned u ∧ IntsIn w0 u (bs.getD i [])) ∧ w' = w := by
  obtain ⟨ao, cap, rfl, hlen, hcell⟩ := hv
  have HC := hide hcell
  clear hcell
  by_cases h : i < bs.length
  · obtain ⟨b, rfl, hbb, u, hcl, hin⟩ := HC.out i h
    have HE : Hid (IntsIn w0 u (bs.getD i [])) := hide (by simp [List.getD, h]; exact hin)
    obtain ⟨ao2, m, cap2, hu⟩ : ∃ ao m cap, u = .slice ao m cap := by
      obtain ⟨ao2, cap2, hu, _⟩ := hin
      exact ⟨ao2, _, cap2, hu⟩
    clear hin
    subst hu
    have hcl' : w.cell? (b.add i) = some (.slice ao2 m cap2) := by rw [hb0.cell (by rw [add_blk]; exact hbb)]; exact hcl
    have hi0 : (0 : Int) ≤ (i : Int) := by omega
    have hil : (i : Int) < (bs.length : Int) := by omega
    clear hcl
    go_enter Try.func24, Try.ntmps24
    go_wp2
    go_ret
    exact ⟨⟨_, rfl, HE.out⟩, rfl⟩
  · have HE : Hid (IntsIn w0 (.slice none 0 0) (bs.getD i [])) := hide (by simp [List.getD, h]; exact IntsIn.nil w0)
    go_enter Try.func24, Try.ntmps24
    go_wp2
    go_ret
    exact ⟨⟨_, rfl, HE.out⟩, rfl⟩
/-- What holds of a block of the walk's own. -/
structure K5 (w : World) (g : Nat) (W : World) : Prop where
  b : Below w.heap.size w W
  lt : g < W.heap.size
@[reducible] def S5 (w : World) (g : Nat) (x y : Value) (W : World) : Prop := W.cell? ⟨g, 0, none⟩ = some x ∧ W.cell? ⟨g, 1, none⟩ = some y ∧ K5 w g W
theorem S5.bel {w W W' : World} {g : Nat} {x y : Value} (h : S5 w g x y W) (hb : Below W.heap.size W W') : S5 w g x y W' :=
  ⟨by rw [hb.cell h.2.2.lt]; exact h.1, by rw [hb.cell h.2.2.lt]; exact h.2.1, below_go h.2.2.b hb, Nat.lt_of_lt_of_le h.2.2.lt hb.size⟩
theorem S5.draw {w W : World} {g : Nat} {x y : Value} (h : S5 w g x y W) : S5 w g x y W.drew := h.bel (Below.refl _ _).drew
theorem S5.new {w W : World} {g : Nat} {x y : Value} (h : S5 w g x y W) (o : Obj) : S5 w g x y (W.alloc o) := h.bel (below_one W o)
theorem S5.set {w W : World} {g k : Nat} {x y : Value} (h : S5 w g x y W) (hne : g ≠ k) (hk : w.heap.size ≤ k) (i : Nat) (v : Value) : S5 w g x y (W.setCell ⟨k, i, none⟩ v) := by
  refine ⟨?_, ?_, h.2.2.b.setCell hk _, ?_⟩
  · rw [World.cell?_setCell_other _ _ _ _ (fun e => hne (congrArg Addr.block e).symm)]; exact h.1
  · rw [World.cell?_setCell_other _ _ _ _ (fun e => hne (congrArg Addr.block e).symm)]; exact h.2.1
  · rw [World.size_setCell]; exact h.2.2.lt
theorem S5.up {w v W : World} {g : Nat} {x y : Value} (h : S5 v g x y W) (hb : Below w.heap.size w v) : S5 w g x y W := ⟨h.1, h.2.1, below_go hb h.2.2.b, h.2.2.lt⟩
theorem S5.row {w W : World} {g : Nat} {x y : Value} {t : TypeId} (hr : Row W g #[x, y] t) (hb : Below w.heap.size w W) : S5 w g x y W := ⟨hr.cell 0 rfl, hr.cell 1 rfl, hb, hr.lt⟩
theorem undrew {W w5 : World} (hb : Below W.drew.heap.size W.drew w5) : Below W.heap.size W w5 := below_go (Below.refl _ _).drew hb
theorem Row.newLc (U : World) (o : Obj) (a b : Value) (t : TypeId) : ((U.alloc o).alloc (.cells #[a, b] t)).cell? ⟨U.heap.size + 1, 1, none⟩ = some b := by
  have h := Row.new (U.alloc o) #[a, b] t
  rw [World.size_alloc] at h
  exact h.cell 1 rfl
/-- A block that was made on the way. -/
structure Rw (w w5 : World) (g k : Nat) (cs : Array Value) (t : TypeId) : Prop where
  row : Row w5 k cs t
  ne : g ≠ k
  ge : w.heap.size ≤ k
theorem Rw.new {w U w5 : World} {g : Nat} {x y : Value} {cs : Array Value} {t : TypeId} (hS : S5 w g x y U) (hb : Below (U.alloc (.cells cs t)).heap.size (U.alloc (.cells cs t)) w5) : Rw w w5 g U.heap.size cs t :=
  ⟨(Row.new U cs t).below hb, Nat.ne_of_lt hS.2.2.lt, hS.2.2.b.size⟩
theorem Rw.new2 {w U w5 : World} {g : Nat} {x y : Value} {cs : Array Value} {t : TypeId} {o : Obj} (hS : S5 w g x y U) (hb : Below ((U.alloc (.cells cs t)).alloc o).heap.size ((U.alloc (.cells cs t)).alloc o) w5) : Rw w w5 g U.heap.size cs t :=
  ⟨((Row.new U cs t).alloc o).below hb, Nat.ne_of_lt hS.2.2.lt, hS.2.2.b.size⟩
theorem Rw.newL {w U w5 : World} {g : Nat} {x y : Value} {cs : Array Value} {t : TypeId} {o : Obj} (hS : S5 w g x y U) (hb : Below ((U.alloc o).alloc (.cells cs t)).heap.size ((U.alloc o).alloc (.cells cs t)) w5) : Rw w w5 g (U.heap.size + 1) cs t := by
  have h := (Row.new (U.alloc o) cs t).below hb
  rw [World.size_alloc] at h
  have h1 := hS.2.2.lt
  have h2 := hS.2.2.b.size
  exact ⟨h, by omega, by omega⟩
theorem Rw.c0 {w w7 : World} {g k : Nat} {a b : Value} {t : TypeId} (h : Rw w w7 g k #[a, b] t) : w7.cell? ⟨k, 0, none⟩ = some a := h.row.cell 0 rfl
theorem Rw.c1 {w w7 : World} {g k : Nat} {a b : Value} {t : TypeId} (h : Rw w w7 g k #[a, b] t) : w7.cell? ⟨k, 1, none⟩ = some b := h.row.cell 1 rfl
theorem Rw.bel {w w5 w7 : World} {g k : Nat} {cs : Array Value} {t : TypeId} (h : Rw w w5 g k cs t) (hb : Below w5.heap.size w5 w7) : Rw w w7 g k cs t := ⟨h.row.below hb, h.ne, h.ge⟩
theorem Rw.two {w w7 : World} {g k : Nat} {a b x y : Value} {t : TypeId} (h : Rw w w7 g k #[a, b] t) (hS : S5 w g x y w7) (c d : Value) : S5 w g x y ((w7.setCell ⟨k, 0, none⟩ c).setCell ⟨k, 1, none⟩ d) := (hS.set h.ne h.ge 0 c).set h.ne h.ge 1 d
theorem Rw.own {w w7 : World} {g k : Nat} {a b x y : Value} {t : TypeId} (h : Rw w w7 g k #[a, b] t) (hS : S5 w g x y w7) (c d : Value) : S5 w k c d ((w7.setCell ⟨k, 0, none⟩ c).setCell ⟨k, 1, none⟩ d) :=
  S5.row (t := t) (by have := (h.row.set 0 c).set 1 d; simpa using this) ((hS.2.2.b.setCell h.ge _).setCell h.ge _)
theorem own_ltI {W : World} {B : Nat} {t : TypeId} {n m : Nat} {v : Value} {xs : List Value} (h : W.ownsRow B t n v m xs) {g : Nat} (hg : v.ownBlock = some g) : B ≤ g ∧ g < W.heap.size := by
  rcases h.2 with ⟨rfl, _⟩ | ⟨g', cap, cur, rfl, hb, hh, _⟩
  · cases hg
  · cases hg; exact ⟨hb, row_lt hh⟩
theorem own_otherI {W W' : World} {B : Nat} {t : TypeId} {n m : Nat} {v : Value} {xs : List Value} (h : W.ownsRow B t n v m xs) (hb : ∀ g, v.ownBlock = some g → g < W.heap.size → W'.heap[g]? = W.heap[g]?) : W'.ownsRow B t n v m xs := by
  refine ⟨h.1, ?_⟩
  rcases h.2 with a2 | ⟨g', cap, cur, hv', hg, hh, r⟩
  · exact .inl a2
  · exact .inr ⟨g', cap, cur, hv', hg, by rw [hb g' (by rw [hv']; rfl) (row_lt hh)]; exact hh, r⟩
/-- One more in the one list: the other stands. -/
theorem push_twoI {w W w5 : World} {o : Obj} {B m : Nat} {t : TypeId} {n : Nat} {av av' ov : Value} {ys : List Value} (hb : Below B w W) (hBW : B ≤ W.heap.size) (ho : W.ownsRow B t n ov m ys) (ne : ∀ j, av.ownBlock = some j → ov.ownBlock ≠ some j)
    (hbl : Below B (W.alloc o) w5) (hsm : ∀ j, j < (W.alloc o).heap.size → av.ownBlock ≠ some j → w5.heap[j]? = (W.alloc o).heap[j]?) (hat : av'.ownBlock = av.ownBlock ∨ av'.ownBlock = some (W.alloc o).heap.size) :
    Below B w w5 ∧ w5.ownsRow B t n ov m ys ∧ ∀ j, av'.ownBlock = some j → ov.ownBlock ≠ some j := by
  refine ⟨(hb.alloc hBW o).trans hbl, own_otherI ho (fun g hg hl => ?_), fun j hj hx => ?_⟩
  · rw [hsm g (by simp; omega) (fun e => ne g e hg), heap_alloc_old _ _ hl]
  · have := (own_ltI ho hx).2
    rcases hat with e | e
    · exact ne j (e ▸ hj) hx
    · rw [e] at hj; cases hj; simp at this; omega
theorem itU_len (a : It) : (Wd.itV a).length = 2 := rfl
def ptV (x : Itm) : List Value := [.bool x.hd, .slice none 0 0]
theorem ptV_len (x : Itm) : (ptV x).length = 2 := rfl
theorem ptV_one (x : Itm) : ∀ u ∈ ptV x, u.oneCell' = true := fun u hu => by simp [ptV] at hu; rcases hu with rfl | rfl <;> rfl
def txV (t : Thr) (x : Itm) : List Value := [.string (Wd.mkS (x.plain t))]
theorem txV_len (t : Thr) (x : Itm) : (txV t x).length = 1 := rfl
theorem txV_one (t : Thr) (x : Itm) : ∀ u ∈ txV t x, u.oneCell' = true := fun u hu => by simp [txV] at hu; subst hu; rfl
/-- While the items are put together. -/
structure InlI (W8 W : World) (wv tv : Value) (t : Thr) (xs : List Itm) : Prop where
  b : Below W8.heap.size W8 W
  p : W.ownsRow W8.heap.size 34 2 wv xs.length (xs.flatMap ptV)
  x : W.ownsRow W8.heap.size 9 1 tv xs.length (xs.flatMap (txV t))
  ne : ∀ j, wv.ownBlock = some j → tv.ownBlock ≠ some j
theorem InlI.bel {W8 W W' : World} {wv tv : Value} {t : Thr} {xs : List Itm} (h : InlI W8 W wv tv t xs) (hb : Below W.heap.size W W') : InlI W8 W' wv tv t xs :=
  ⟨below_go h.b hb, own_same h.p (fun g _ hl => hb.block g hl), own_same h.x (fun g _ hl => hb.block g hl), h.ne⟩
theorem fnR_flat (t : Thr) : flat (fnR t) = 65 :: 123 :: (t.f0 ++ 125 :: 67 :: 123 :: (t.p2 ++ 125 :: 66 :: 123 :: (t.f1 ++ [125]))) := by
  simp [fnR, flat, Thr.f2, Thr.p2]
theorem itR_snoc (xs : List Itm) (x : Itm) : flat (itR (xs ++ [x])) = flat (itR xs) ++ (letterOf x.hd :: 123 :: (x.fold ++ [125])) := by
  unfold itR
  rw [List.map_append, flat_app]; rfl
theorem plR_snoc (t : Thr) (xs : List Itm) (x : Itm) : flat (plR t (xs ++ [x])) = flat (plR t xs) ++ (letterOf x.hd :: 123 :: (x.plain t ++ [125])) := by
  unfold plR
  rw [List.map_append, flat_app]; rfl
theorem itR_len2 {xs : List Itm} (hx : ∀ x ∈ xs, x.Ok) : (flat (itR xs)).length ≤ 21 * xs.length := by
  induction xs with
  | nil => simp [itR, flat]
  | cons x r ih =>
    have e : flat (itR (x :: r)) = (letterOf x.hd :: 123 :: (x.fold ++ [125])) ++ flat (itR r) := by
      rw [show itR (x :: r) = [(letterOf x.hd, x.fold)] ++ itR r from rfl, flat_app]
      congr 1
    rw [e, List.length_append]
    have := ih (fun y hy => hx y (by simp [hy]))
    have := len_fold (hx x (by simp))
    simp only [List.length_cons, List.length_append, List.length_nil]; omega
theorem Try.infoPart : (Try.prog.info? 34).map (fun i => (i.zero, i.size, i.bytes)) = some (some (.agg #[.bool false, .slice none 0 0]), 2, 32) := by kernel_rfl
theorem Try.infoStr : (Try.prog.info? 9).map (fun i => (i.zero, i.size, i.bytes)) = some (some (.string ⟨#[]⟩), 1, 16) := by kernel_rfl
theorem intsIn_ge {w : World} {v : Value} {zs : List Int} (h : IntsIn w v zs) (i : Nat) : -9223372036854775808 ≤ zs.getD i 0 ∧ zs.getD i 0 ≤ 9223372036854775807 := by
  obtain ⟨ao, cap, _, _, h3, _⟩ := h
  rw [List.getD_eq_getElem?_getD]
  cases e : zs[i]? with
  | none => simp
  | some z => exact h3 z (List.mem_of_getElem? e)
set_option maxRecDepth 100000 in
theorem inlined_walk (v vb vn : Value) (ps : List Pt) (bs : List (List Int)) (zs : List Int) (front : Bool) (cpus : Int) (raw : ByteArray) (hr : raw.size ≤ maxLen) (hc0 : -9223372036854775808 ≤ cpus) (hc1 : cpus ≤ 9223372036854775807) (w : World) (hin : PartsIn w v ps) (hbs : BodsIn w vb bs) (hzs : IntsIn w vn zs) :
    Calls Try.prog 7 #[v, vb, vn, .bool front, .int .i64 cpus, .string raw] w fun e w' => e = .returned (.bool true) ∧ Below w.heap.size w w' := by
  have hz0 := intsIn_ge hzs 0
  have hz1 := intsIn_ge hzs 1
  have htk := inlT_ok bs zs
  have A0 := hide (lives_any w)
  have AS2 := fun (W : World) (hb : Below w.heap.size w W) => some_at vb bs 2 w W hbs hb (by decide)
  have AS1 := fun (W : World) (hb : Below w.heap.size w W) => some_at vb bs 1 w W hbs hb (by decide)
  have AS0 := fun (W : World) (hb : Below w.heap.size w W) => some_at vb bs 0 w W hbs hb (by decide)
  have AN0 := fun (W : World) (hb : Below w.heap.size w W) => nth_any vn zs 0 W (hzs.below hb (Nat.le_refl _)) (by decide)
  have AN1 := fun (W : World) (hb : Below w.heap.size w W) => nth_any vn zs 1 W (hzs.below hb (Nat.le_refl _)) (by decide)
  have AW2 := fun (W : World) (u : Value) (hb : Below w.heap.size w W) (hu : IntsIn w u (bs.getD 2 [])) => weave_any u (bs.getD 2 []) 8 W (hu.below hb (Nat.le_refl _)) (by decide)
  have AW1 := fun (W : World) (u : Value) (hb : Below w.heap.size w W) (hu : IntsIn w u (bs.getD 1 [])) => weave_any u (bs.getD 1 []) 6 W (hu.below hb (Nat.le_refl _)) (by decide)
  have AW0 := fun (W : World) (u : Value) (hb : Below w.heap.size w W) (hu : IntsIn w u (bs.getD 0 [])) => weave_any u (bs.getD 0 []) 6 W (hu.below hb (Nat.le_refl _)) (by decide)
  have AT2 := fun (W : World) => third_any (weaveP (bs.getD 2 []) 8) W (by have := htk.l2; exact Nat.le_trans this (by decide))
  have AT1 := fun (g : Nat) (W : World) hg hc => second_any (weaveP (bs.getD 1 []) 6) (inlT bs zs).p2 67 g (zs.getD 0 0) W (by have := htk.l1; exact Nat.le_trans this (by decide)) (by have := Thr.len2 htk; omega) hg hc
  have AT0 := fun (g : Nat) (W : World) hg hc => second_any (weaveP (bs.getD 0 []) 6) (inlT bs zs).p1 66 g (zs.getD 1 0) W (by have := htk.l0; exact Nat.le_trans this (by decide)) (by have := Thr.len1 htk; omega) hg hc
  have e1 : nmB (useB (zs.getD 0 0)) 67 ++ weaveP (bs.getD 1 []) 6 = (inlT bs zs).f1 := rfl
  have e2 : txB (useB (zs.getD 0 0)) (inlT bs zs).p2 ++ weaveP (bs.getD 1 []) 6 = (inlT bs zs).p1 := rfl
  have e3 : nmB (useB (zs.getD 1 0)) 66 ++ weaveP (bs.getD 0 []) 6 = (inlT bs zs).f0 := rfl
  have e4 : txB (useB (zs.getD 1 0)) (inlT bs zs).p1 ++ weaveP (bs.getD 0 []) 6 = (inlT bs zs).p0 := rfl
  have e5 : weaveP (bs.getD 2 []) 8 = (inlT bs zs).p2 := rfl
  have e6 : (inlT bs zs).f2 = (inlT bs zs).p2 := rfl
  rw [e1, e2] at AT1
  rw [e3, e4] at AT0
  rw [e5] at AT2
  simp only [e5] at AW2
  have AX := fun (k : Nat) (hd : Bool) (st : List Int) (g : Nat) (W : World) (h3 : Thr3 W g (inlT bs zs)) => three_any (inlT bs zs) htk hd st (zs.getD (2 + k) 0) g W (intsIn_ge hzs (2 + k)).1 (intsIn_ge hzs (2 + k)).2 h3
  have AN := fun (k : Nat) (W : World) (hb : Below w.heap.size w W) (hk : k ≤ 10) => nth_any vn zs (2 + k) W (hzs.below hb (Nat.le_refl _)) (by omega)
  have HAS2 := hide AS2
  have HAS1 := hide AS1
  have HAS0 := hide AS0
  have HAN0 := hide AN0
  have HAN1 := hide AN1
  have HAW2 := hide AW2
  have HAW1 := hide AW1
  have HAW0 := hide AW0
  have HAT2 := hide AT2
  have HAT1 := hide AT1
  have HAT0 := hide AT0
  have HAX := hide AX
  have HAN := hide AN
  have HTK := hide htk
  obtain ⟨ao, cap, rfl, hlen, hcell⟩ := hin
  have HC := hide hcell
  have hmax : ps.length ≤ 9223372036854775807 := by unfold maxLen at hlen; omega
  clear hcell
  have hp := pickP_bd cpus 3 (by decide)
  obtain ⟨pn, hpp⟩ : ∃ p : Nat, pickP cpus 3 = p := ⟨(pickP cpus 3).toNat, by omega⟩
  have hp3 : pn < 3 := by omega
  have en : (((1 + pn : Nat)) : Int) = 1 + (pn : Int) := by omega
  have hls := cmdsP_len (1 + pn) raw.data.toList
  have hsc := cmdsP_script (1 + pn) (by omega) (by omega) raw.data.toList
  have A2 := fun W => pick_any cpus 3 W hc0 hc1 (by decide) (by decide)
  simp only [hpp] at A2
  have HA2 := hide A2
  have A4 := fun W => commands_any raw (1 + pn) W hr (by omega) (by omega)
  simp only [en] at A4
  have HA4 := hide A4
  have ATL := fun (l m : List UInt8) (its : List It) (W : World) (hl : Src l its) (hm : Src m its) => told_yes l m its (1 + pn) (cmdsP (1 + pn) raw.data.toList) W hl hm (by omega) (by omega) (by omega) hsc
  simp only [en] at ATL
  have HATL := hide ATL
  clear A2 A4 ATL hpp en hp hls hsc
  generalize cmdsP (1 + pn) raw.data.toList = scr at *
  clear AS2 AS1 AS0 AN0 AN1 AW2 AW1 AW0 AT2 AT1 AT0 AX AN e1 e2 e3 e4 e5 htk
  generalize weaveP (bs.getD 1 []) 6 = b1 at *
  generalize weaveP (bs.getD 0 []) 6 = b0 at *
  generalize bs.getD 2 [] = B2 at *
  generalize bs.getD 1 [] = B1 at *
  generalize bs.getD 0 [] = B0 at *
  generalize hzz0 : zs.getD 0 0 = z0 at *
  generalize hzz1 : zs.getD 1 0 = z1 at *
  clear hzz0 hzz1
  generalize inlT bs zs = t at *
  obtain ⟨vba, vbn, vbc, hvb⟩ : ∃ a n c, vb = .slice a n c := by obtain ⟨a, c, h, _⟩ := hbs; exact ⟨a, _, c, h⟩
  obtain ⟨vna, vnn, vnc, hvn⟩ : ∃ a n c, vn = .slice a n c := by obtain ⟨a, c, h, _⟩ := hzs; exact ⟨a, _, c, h⟩
  clear hbs hzs
  subst hvb
  subst hvn
  go_enter Try.func7, Try.ntmps7
  go_wp2_with fail
  go_at_call 8
  refine (A0.out).mono ?_
  rintro e w1 ⟨rfl, hb1⟩
  have HB1 := hide hb1
  clear hb1
  go_wp2_with fail
  go_at_call 24
  refine (HAS2.out _ HB1.out).mono ?_
  rintro e w' ⟨⟨u2, rfl, hu2⟩, hww⟩
  obtain rfl := hww.symm
  have HU2 := hide hu2
  clear hww hu2
  obtain ⟨u2a, u2n, u2c, hu2v⟩ : ∃ a n c, u2 = .slice a n c := by obtain ⟨a, c, h, _⟩ := HU2.out; exact ⟨a, _, c, h⟩
  subst hu2v
  go_wp2_with fail
  go_at_call 23
  refine (HAW2.out _ _ HB1.out HU2.out).mono ?_
  rintro e w2 ⟨rfl, hb2⟩
  have HB2 := hide (below_go HB1.out hb2)
  clear hb2
  go_wp2_with fail
  go_at_call 22
  refine (HAT2.out _).mono ?_
  rintro e w3 ⟨rfl, hb3⟩
  have HB3 := hide (below_go HB2.out hb3)
  clear hb3
  go_upto_region 5 with fail
  have HS3 := hide (S5.row (Row.new w3 #[.string (Wd.mkS t.p2), .string (Wd.mkS t.p2)] 55) (below_new HB3.out _))
  clear HB2 HB1
  generalize w3.alloc (.cells #[.string (Wd.mkS t.p2), .string (Wd.mkS t.p2)] 55) = w4 at *
  generalize w3.heap.size = g3 at *
  have HBC := hide HS3.out.2.2.b
  have hS4 : S5 w4 g3 (.string (Wd.mkS t.p2)) (.string (Wd.mkS t.p2)) w4 := ⟨HS3.out.1, HS3.out.2.1, Below.refl _ _, HS3.out.2.2.lt⟩
  clear HS3 HB3
  go_cut [15] from 38 to 46 (fun s wx => ∃ g, s = .pointer (some ⟨g, 0, none⟩) ∧ S5 w4 g3 (.string (Wd.mkS t.p2)) (.string (Wd.mkS t.p2)) wx ∧ S5 w4 g (.string (Wd.mkS t.f1)) (.string (Wd.mkS t.p1)) wx)
  case first =>
    go_region_held3 (fun W' => S5 w4 g3 (.string (Wd.mkS t.p2)) (.string (Wd.mkS t.p2)) W') (with_reducible first | assumption | exact S5.draw (by assumption) | exact S5.new (by assumption) _ | exact S5.draw (S5.new (by assumption) _) | exact S5.new (S5.new (by assumption) _) _ | exact S5.draw (S5.new (S5.new (by assumption) _) _) | exact S5.draw (S5.draw (by assumption)) | exact HRa7.out.two (by assumption) _ _ | exact HRb7.out.two (by assumption) _ _ | exact HRc7.out.two (by assumption) _ _ | exact HRd7.out.two (by assumption) _ _ | fail) (first
      | (go_at_call 22; refine (HAT1.out _ _ (by first | exact HRa.out.row.lt | exact HRb.out.row.lt | exact (Row.alloc HRa.out.row _).lt | exact (Row.alloc HRb.out.row _).lt | exact (Row.new _ _ _).lt | exact (Row.alloc (Row.new _ _ _) _).lt | (simp only [World.size_alloc]; omega)) (by first | exact HRa.out.c1 | exact HRb.out.c1 | exact (Row.alloc HRa.out.row _).cell 1 rfl | exact (Row.alloc HRb.out.row _).cell 1 rfl | exact Row.newLc _ _ _ _ _ | exact (Row.new _ _ _).cell 1 rfl | exact (Row.alloc (Row.new _ _ _) _).cell 1 rfl)).mono ?_; rintro e w7 ⟨rfl, hb7⟩; have hS7 := S5.bel (show S5 w4 g3 (.string (Wd.mkS t.p2)) (.string (Wd.mkS t.p2)) _ from (by assumption)) hb7; (try (with_reducible replace hb7 := undrew hb7)); (try (with_reducible replace hb7 := undrew hb7)); (first | (have HRc7 := hide (Rw.new2 (show S5 w4 g3 (.string (Wd.mkS t.p2)) (.string (Wd.mkS t.p2)) _ from (by assumption)) hb7); have HRd7 := hide (Rw.newL (show S5 w4 g3 (.string (Wd.mkS t.p2)) (.string (Wd.mkS t.p2)) _ from (by assumption)) hb7); have qRc70 := HRc7.out.c0; have qRc71 := HRc7.out.c1; have qRc72 := HRc7.out.row.frozen 0; have qRc73 := HRc7.out.row.frozen 1; have qRd70 := HRd7.out.c0; have qRd71 := HRd7.out.c1; have qRd72 := HRd7.out.row.frozen 0; have qRd73 := HRd7.out.row.frozen 1) | (have HRc7 := hide (Rw.new (show S5 w4 g3 (.string (Wd.mkS t.p2)) (.string (Wd.mkS t.p2)) _ from (by assumption)) hb7); have qRc70 := HRc7.out.c0; have qRc71 := HRc7.out.c1; have qRc72 := HRc7.out.row.frozen 0; have qRc73 := HRc7.out.row.frozen 1) | skip); (try (have HRa7 := hide (by first | exact Rw.bel HRa.out hb7 | exact Rw.bel HRa.out (below_go (below_one _ _) hb7) : Rw w4 w7 g3 _ _ _); have qRa70 := HRa7.out.c0; have qRa71 := HRa7.out.c1; have qRa72 := HRa7.out.row.frozen 0; have qRa73 := HRa7.out.row.frozen 1)); (try (have HRb7 := hide (by first | exact Rw.bel HRb.out hb7 | exact Rw.bel HRb.out (below_go (below_one _ _) hb7) : Rw w4 w7 g3 _ _ _); have qRb70 := HRb7.out.c0; have qRb71 := HRb7.out.c1; have qRb72 := HRb7.out.row.frozen 0; have qRb73 := HRb7.out.row.frozen 1)); clear hb7)
      | (go_at_call 23; refine (HAW1.out _ _ (by exact below_go HBC.out (show S5 w4 g3 (.string (Wd.mkS t.p2)) (.string (Wd.mkS t.p2)) _ from (by assumption)).2.2.b) HU1.out).mono ?_; rintro e w5 ⟨rfl, hb5⟩; have hS5 := S5.bel (show S5 w4 g3 (.string (Wd.mkS t.p2)) (.string (Wd.mkS t.p2)) _ from (by assumption)) hb5; (try (with_reducible replace hb5 := undrew hb5)); (try (with_reducible replace hb5 := undrew hb5)); (first | (have HRa := hide (Rw.new2 (show S5 w4 g3 (.string (Wd.mkS t.p2)) (.string (Wd.mkS t.p2)) _ from (by assumption)) hb5); have HRb := hide (Rw.newL (show S5 w4 g3 (.string (Wd.mkS t.p2)) (.string (Wd.mkS t.p2)) _ from (by assumption)) hb5)) | (have HRa := hide (Rw.new (show S5 w4 g3 (.string (Wd.mkS t.p2)) (.string (Wd.mkS t.p2)) _ from (by assumption)) hb5)) | skip); clear hb5)
      | (go_at_call 25; refine (HAN0.out _ (by exact below_go HBC.out (show S5 w4 g3 (.string (Wd.mkS t.p2)) (.string (Wd.mkS t.p2)) _ from (by assumption)).2.2.b)).mono ?_; rintro e w' ⟨rfl, hww⟩; obtain rfl := hww.symm; clear hww)
      | (go_at_call 24; refine (HAS1.out _ (by exact below_go HBC.out (show S5 w4 g3 (.string (Wd.mkS t.p2)) (.string (Wd.mkS t.p2)) _ from (by assumption)).2.2.b)).mono ?_; rintro e w' ⟨⟨u1, rfl, hu1⟩, hww⟩; obtain rfl := hww.symm; have HU1 := hide hu1; clear hww hu1))
    all_goals (
      go_wp2_with fail
      go_meet
      case rel =>
        refine ⟨_, rfl, (by with_reducible first | assumption | exact S5.draw (by assumption) | exact S5.new (by assumption) _ | exact S5.draw (S5.new (by assumption) _) | exact S5.new (S5.new (by assumption) _) _ | exact S5.draw (S5.new (S5.new (by assumption) _) _) | exact S5.draw (S5.draw (by assumption)) | exact HRa7.out.two (by assumption) _ _ | exact HRb7.out.two (by assumption) _ _ | exact HRc7.out.two (by assumption) _ _ | exact HRd7.out.two (by assumption) _ _ | fail), ?_⟩
        first | exact HRa7.out.own (by assumption) _ _ | exact HRb7.out.own (by assumption) _ _ | exact HRc7.out.own (by assumption) _ _ | exact HRd7.out.own (by assumption) _ _ | exact S5.row (Row.new _ _ _) (below_new hS7.2.2.b _) | exact S5.draw (S5.row (Row.new _ _ _) (below_new hS7.2.2.b _)))
  case rest =>
    obtain ⟨g2, rfl, hc3, hc2⟩ := hcut
    have HS3 := hide (hc3.up HBC.out)
    have HB9 := hide (below_go HBC.out hc2.2.2.b)
    have hS9 : S5 wc g2 (.string (Wd.mkS t.f1)) (.string (Wd.mkS t.p1)) wc := ⟨hc2.1, hc2.2.1, Below.refl _ _, hc2.2.2.lt⟩
    clear hc3 hc2 hS4 HBC
    have HBC := hide HB9.out
    clear HB9
    generalize wc = w9 at *
    go_upto_region 6 with fail
    go_cut [16] from 47 to 55 (fun s wx => ∃ g, s = .pointer (some ⟨g, 0, none⟩) ∧ S5 w9 g2 (.string (Wd.mkS t.f1)) (.string (Wd.mkS t.p1)) wx ∧ S5 w9 g (.string (Wd.mkS t.f0)) (.string (Wd.mkS t.p0)) wx)
    case first =>
      go_region_held3 (fun W' => S5 w9 g2 (.string (Wd.mkS t.f1)) (.string (Wd.mkS t.p1)) W') (with_reducible first | assumption | exact S5.draw (by assumption) | exact S5.new (by assumption) _ | exact S5.draw (S5.new (by assumption) _) | exact S5.new (S5.new (by assumption) _) _ | exact S5.draw (S5.new (S5.new (by assumption) _) _) | exact S5.draw (S5.draw (by assumption)) | exact HRa7.out.two (by assumption) _ _ | exact HRb7.out.two (by assumption) _ _ | exact HRc7.out.two (by assumption) _ _ | exact HRd7.out.two (by assumption) _ _ | fail) (first
        | (go_at_call 22; refine (HAT0.out _ _ (by first | exact HRa.out.row.lt | exact HRb.out.row.lt | exact (Row.alloc HRa.out.row _).lt | exact (Row.alloc HRb.out.row _).lt | exact (Row.new _ _ _).lt | exact (Row.alloc (Row.new _ _ _) _).lt | (simp only [World.size_alloc]; omega)) (by first | exact HRa.out.c1 | exact HRb.out.c1 | exact (Row.alloc HRa.out.row _).cell 1 rfl | exact (Row.alloc HRb.out.row _).cell 1 rfl | exact Row.newLc _ _ _ _ _ | exact (Row.new _ _ _).cell 1 rfl | exact (Row.alloc (Row.new _ _ _) _).cell 1 rfl)).mono ?_; rintro e w7 ⟨rfl, hb7⟩; have hS7 := S5.bel (show S5 w9 g2 (.string (Wd.mkS t.f1)) (.string (Wd.mkS t.p1)) _ from (by assumption)) hb7; (try (with_reducible replace hb7 := undrew hb7)); (try (with_reducible replace hb7 := undrew hb7)); (first | (have HRc7 := hide (Rw.new2 (show S5 w9 g2 (.string (Wd.mkS t.f1)) (.string (Wd.mkS t.p1)) _ from (by assumption)) hb7); have HRd7 := hide (Rw.newL (show S5 w9 g2 (.string (Wd.mkS t.f1)) (.string (Wd.mkS t.p1)) _ from (by assumption)) hb7); have qRc70 := HRc7.out.c0; have qRc71 := HRc7.out.c1; have qRc72 := HRc7.out.row.frozen 0; have qRc73 := HRc7.out.row.frozen 1; have qRd70 := HRd7.out.c0; have qRd71 := HRd7.out.c1; have qRd72 := HRd7.out.row.frozen 0; have qRd73 := HRd7.out.row.frozen 1) | (have HRc7 := hide (Rw.new (show S5 w9 g2 (.string (Wd.mkS t.f1)) (.string (Wd.mkS t.p1)) _ from (by assumption)) hb7); have qRc70 := HRc7.out.c0; have qRc71 := HRc7.out.c1; have qRc72 := HRc7.out.row.frozen 0; have qRc73 := HRc7.out.row.frozen 1) | skip); (try (have HRa7 := hide (by first | exact Rw.bel HRa.out hb7 | exact Rw.bel HRa.out (below_go (below_one _ _) hb7) : Rw w9 w7 g2 _ _ _); have qRa70 := HRa7.out.c0; have qRa71 := HRa7.out.c1; have qRa72 := HRa7.out.row.frozen 0; have qRa73 := HRa7.out.row.frozen 1)); (try (have HRb7 := hide (by first | exact Rw.bel HRb.out hb7 | exact Rw.bel HRb.out (below_go (below_one _ _) hb7) : Rw w9 w7 g2 _ _ _); have qRb70 := HRb7.out.c0; have qRb71 := HRb7.out.c1; have qRb72 := HRb7.out.row.frozen 0; have qRb73 := HRb7.out.row.frozen 1)); clear hb7)
        | (go_at_call 23; refine (HAW0.out _ _ (by exact below_go HBC.out (show S5 w9 g2 (.string (Wd.mkS t.f1)) (.string (Wd.mkS t.p1)) _ from (by assumption)).2.2.b) HU1.out).mono ?_; rintro e w5 ⟨rfl, hb5⟩; have hS5 := S5.bel (show S5 w9 g2 (.string (Wd.mkS t.f1)) (.string (Wd.mkS t.p1)) _ from (by assumption)) hb5; (try (with_reducible replace hb5 := undrew hb5)); (try (with_reducible replace hb5 := undrew hb5)); (first | (have HRa := hide (Rw.new2 (show S5 w9 g2 (.string (Wd.mkS t.f1)) (.string (Wd.mkS t.p1)) _ from (by assumption)) hb5); have HRb := hide (Rw.newL (show S5 w9 g2 (.string (Wd.mkS t.f1)) (.string (Wd.mkS t.p1)) _ from (by assumption)) hb5)) | (have HRa := hide (Rw.new (show S5 w9 g2 (.string (Wd.mkS t.f1)) (.string (Wd.mkS t.p1)) _ from (by assumption)) hb5)) | skip); clear hb5)
        | (go_at_call 25; refine (HAN1.out _ (by exact below_go HBC.out (show S5 w9 g2 (.string (Wd.mkS t.f1)) (.string (Wd.mkS t.p1)) _ from (by assumption)).2.2.b)).mono ?_; rintro e w' ⟨rfl, hww⟩; obtain rfl := hww.symm; clear hww)
        | (go_at_call 24; refine (HAS0.out _ (by exact below_go HBC.out (show S5 w9 g2 (.string (Wd.mkS t.f1)) (.string (Wd.mkS t.p1)) _ from (by assumption)).2.2.b)).mono ?_; rintro e w' ⟨⟨u1, rfl, hu1⟩, hww⟩; obtain rfl := hww.symm; have HU1 := hide hu1; clear hww hu1))
      all_goals (
        go_wp2_with fail
        go_meet
        case rel =>
          refine ⟨_, rfl, (by with_reducible first | assumption | exact S5.draw (by assumption) | exact S5.new (by assumption) _ | exact S5.draw (S5.new (by assumption) _) | exact S5.new (S5.new (by assumption) _) _ | exact S5.draw (S5.new (S5.new (by assumption) _) _) | exact S5.draw (S5.draw (by assumption)) | exact HRa7.out.two (by assumption) _ _ | exact HRb7.out.two (by assumption) _ _ | exact HRc7.out.two (by assumption) _ _ | exact HRd7.out.two (by assumption) _ _ | fail), ?_⟩
          first | exact HRa7.out.own (by assumption) _ _ | exact HRb7.out.own (by assumption) _ _ | exact HRc7.out.own (by assumption) _ _ | exact HRd7.out.own (by assumption) _ _ | exact S5.row (Row.new _ _ _) (below_new hS7.2.2.b _) | exact S5.draw (S5.row (Row.new _ _ _) (below_new hS7.2.2.b _)))
    case rest =>
      obtain ⟨g1, rfl, hd2, hd1⟩ := hcut
      generalize wc = wd at *
      have HQ3 := HS3.out.bel hd2.2.2.b
      have HB10 := hide (below_go HBC.out hd1.2.2.b)
      obtain ⟨a30, a31, a3k⟩ := HQ3
      obtain ⟨a20, a21, a2k⟩ := hd2
      obtain ⟨a10, a11, a1k⟩ := hd1
      have hl31 := a3k.lt
      have hl21 := a2k.lt
      have hl11 := a1k.lt
      clear a3k a2k a1k HS3 hS9 HBC
      have lf0 : t.f0.length ≤ 7 := by have := HTK.out.l0; unfold Thr.f0 nmB; cases t.u0 <;> simp <;> omega
      have lf1 : t.f1.length ≤ 7 := by have := HTK.out.l1; unfold Thr.f1 nmB; cases t.u1 <;> simp <;> omega
      have lp2 := Thr.len2 HTK.out
      have HRN := hide (Row.new wd #[.string (Wd.mkS t.f0), .string (Wd.mkS t.p0), .string (Wd.mkS t.f1), .string (Wd.mkS t.p1), .string (Wd.mkS t.p2), .string (Wd.mkS t.p2)] 55)
      have HT3 : Hid (Thr3 (wd.alloc (.cells #[.string (Wd.mkS t.f0), .string (Wd.mkS t.p0), .string (Wd.mkS t.f1), .string (Wd.mkS t.p1), .string (Wd.mkS t.p2), .string (Wd.mkS t.p2)] 55)) wd.heap.size t) := hide ⟨HRN.out.lt, HRN.out.cell 1 rfl, HRN.out.cell 3 rfl, HRN.out.cell 5 rfl⟩
      have HB11 := hide (below_new HB10.out (.cells #[.string (Wd.mkS t.f0), .string (Wd.mkS t.p0), .string (Wd.mkS t.f1), .string (Wd.mkS t.p1), .string (Wd.mkS t.p2), .string (Wd.mkS t.p2)] 55))
      have x10 := (Below.refl wd.heap.size wd).alloc (Nat.le_refl _) (.cells #[.string (Wd.mkS t.f0), .string (Wd.mkS t.p0), .string (Wd.mkS t.f1), .string (Wd.mkS t.p1), .string (Wd.mkS t.p2), .string (Wd.mkS t.p2)] 55)
      have y10 := (x10.cell (p := ⟨g1, 0, none⟩) hl11).trans a10
      have y20 := (x10.cell (p := ⟨g2, 0, none⟩) hl21).trans a20
      have y30 := (x10.cell (p := ⟨g3, 0, none⟩) hl31).trans a30
      clear x10 HRN HB10
      go_wp2_with (first | (refine wpList_cat rfl 9 9 _ _ rfl _ _ rfl rfl ?_ ?_; (first | omega | (simp; omega))))
      generalize hFT : (65 :: 123 :: (t.f0 ++ 125 :: 67 :: 123 :: (t.p2 ++ 125 :: 66 :: 123 :: (t.f1 ++ [125]))) : List UInt8) = FT at *
      have HFT : Hid (FT = flat (fnR t)) := hide (by rw [fnR_flat, hFT])
      have lFT : FT.length ≤ 40 := by rw [← hFT]; simp; omega
      clear hFT
      generalize wd.alloc (.cells #[.string (Wd.mkS t.f0), .string (Wd.mkS t.p0), .string (Wd.mkS t.f1), .string (Wd.mkS t.p1), .string (Wd.mkS t.p2), .string (Wd.mkS t.p2)] 55) = W8 at *
      generalize wd.heap.size = gl at *
      clear a10 a11 a20 a21 a30 a31 y10 y20 y30 hl31 hl21 hl11 lf0 lf1
      obtain ⟨i1, hi1, hi2⟩ := Option.map_eq_some_iff.1 Try.infoPart
      simp only [Prod.mk.injEq] at hi2
      obtain ⟨hj0, hj1, hj2⟩ := hi2
      obtain ⟨i2, hk1, hk2⟩ := Option.map_eq_some_iff.1 Try.infoStr
      simp only [Prod.mk.injEq] at hk2
      obtain ⟨hm0, hm1, hm2⟩ := hk2
      go_loopw [19, 20, 21, 22, 23] (fun sv ov wv tv i wr => ∃ (k : Nat) (xs : List Itm) (Sx Ox : List UInt8), k ≤ ps.length ∧ k ≤ 3 ∧ i = .int .i64 k ∧ xs.length = k ∧ sv = .string (Wd.mkS Sx) ∧ Sx = flat (itR xs) ∧ ov = .string (Wd.mkS Ox) ∧ Ox = flat (plR t xs) ∧ (∀ x ∈ xs, x.Ok) ∧ InlI W8 wr wv tv t xs) (fun _ _ _ _ i _ => ps.length - (intOf i).toNat)
      case atStart => exact ⟨0, [], [], [], by omega, by omega, rfl, rfl, rfl, rfl, rfl, rfl, (fun x hx => by cases hx), Below.refl _ _, World.ownsRow_nil _ _ _ _, World.ownsRow_nil _ _ _ _, fun j h => by cases h⟩
      case round =>
        obtain ⟨k, xs, Sx, Ox, hk, hk3, rfl, hxl, rfl, hSx, rfl, hOx, hok, hI⟩ := hrel
        have HI := hide hI
        have HOK := hide hok
        have HSX := hide hSx
        have HOX := hide hOx
        have hsl : Sx.length ≤ 63 := by have := itR_len2 hok; rw [hSx]; omega
        have hol : Ox.length ≤ 177 := by have := len_plR HTK.out hok; rw [hOx]; omega
        obtain ⟨pa, pc, hpv⟩ := own_v hI.p
        obtain ⟨xa, xc, hxv⟩ := own_v hI.x
        subst hpv
        subst hxv
        clear hI hok hSx hOx
        subst hxl
        have s1 := Wd.mkS_size Sx
        have s2 := Wd.mkS_size Ox
        by_cases hlt : xs.length < ps.length ∧ xs.length < 3
        · obtain ⟨b, rfl, hbb, hc0, u, hc1, hin⟩ := HC.out xs.length hlt.1
          have HBW := hide (below_go HB11.out HI.out.b)
          have hc0' : wr.cell? (b.add (xs.length * 2)) = some (.bool ps[xs.length].handler) := by rw [HBW.out.cell (by rw [add_blk]; exact hbb)]; exact hc0
          have hc1' : wr.cell? (b.add (xs.length * 2 + 1)) = some u := by rw [HBW.out.cell (by rw [add_blk]; exact hbb)]; exact hc1
          rw [add_fld] at hc1'
          have HINW := hide (hin.below HBW.out (Nat.le_refl _))
          have HH0 := hide hc0
          clear hin hc0 hc1
          generalize ps[xs.length] = p at *
          obtain ⟨hd, st⟩ := p
          simp only at hc0' HINW HH0
          obtain ⟨hl1, hl2⟩ := hlt
          have AWX := hide (weave_any u st 16 wr HINW.out (by decide))
          have AN2 := fun (W : World) hb => HAN.out xs.length W hb (by omega)
          simp only [show (((2 + xs.length : Nat)) : Int) = 2 + (xs.length : Int) from (by omega)] at AN2
          have HAN2 := hide AN2
          have HXX := hide (fun (g : Nat) (W : World) h3 => HAX.out xs.length hd st g W h3)
          have hxok := inlX_ok hd st (zs.getD (2 + xs.length) 0)
          have HHD : Hid ((inlX hd st (zs.getD (2 + xs.length) 0)).hd = hd) := hide rfl
          clear AN2
          generalize zs.getD (2 + xs.length) 0 = z at *
          generalize inlX hd st z = x at *
          obtain rfl := HHD.out
          clear HHD
          have lfo := len_fold hxok
          have lpl := len_plain HTK.out hxok
          have HXO := hide hxok
          generalize weaveP st 16 = B at *
          clear hxok
          go_wp2_with (first
            | (go_at_call 22; refine (HXX.out _ _ (HT3.out.below (below_go HI.out.b HB5.out))).mono ?_; rintro e w6 ⟨rfl, hb6⟩; have HB6 := hide (below_go HB5.out hb6); clear hb6)
            | (go_at_call 25; refine (HAN2.out _ (below_go HBW.out HB5.out)).mono ?_; rintro e w' ⟨rfl, hww⟩; obtain rfl := hww.symm; clear hww)
            | (go_at_call 23; refine (AWX.out).mono ?_; rintro e w5 ⟨rfl, hb5⟩; have HB5 := hide hb5; clear hb5))
          have hc7 := (Below.refl w6.heap.size w6).alloc (Nat.le_refl _) (.cells #[.string (Wd.mkS x.fold), .string (Wd.mkS (x.plain t))] 55)
          have HB7 := hide (below_go HB6.out hc7)
          have HR7 := hide (Row.new w6 #[.string (Wd.mkS x.fold), .string (Wd.mkS (x.plain t))] 55)
          clear hc7
          generalize w6.alloc (.cells #[.string (Wd.mkS x.fold), .string (Wd.mkS (x.plain t))] 55) = w7 at *
          have HG6 : Hid (wr.heap.size ≤ w6.heap.size) := hide HB6.out.size
          generalize w6.heap.size = g7 at *
          have HI7 := hide (HI.out.bel HB7.out)
          have c70 : w7.cell? ⟨g7, 0, none⟩ = some (.string (Wd.mkS x.fold)) := HR7.out.cell 0 rfl
          have c7h : w7.cell? (b.add (xs.length * 2)) = some (.bool x.hd) := by rw [(below_go HBW.out HB7.out).cell (by rw [add_blk]; exact hbb)]; exact HH0.out
          have AI1 := hide (fun W => item_any x.hd x.fold W (by omega))
          have AI2 := hide (fun W => item_any x.hd (x.plain t) W (by omega))
          have q1 := Wd.mkS_size (letterOf x.hd :: 123 :: (x.fold ++ [125]))
          have q2 := Wd.mkS_size (letterOf x.hd :: 123 :: (x.plain t ++ [125]))
          have q3 : (letterOf x.hd :: 123 :: (x.fold ++ [125])).length = x.fold.length + 3 := by simp
          have q4 : (letterOf x.hd :: 123 :: (x.plain t ++ [125])).length = (x.plain t).length + 3 := by simp
          have HG7 : Hid (wr.heap.size ≤ g7) := hide HG6.out
          clear hc0' hc1'
          go_quiet (first | (go_at_call 26; exact Calls.quiet_of_same (AI1.out _)))
          go_wp2_with fail
          rw [mkS_app]
          have HBq := hide (below_drewN (Below.refl w7.heap.size w7) nq)
          have HI8 := hide (HI7.out.bel HBq.out)
          have HR8 := hide (HR7.out.below HBq.out)
          have d7h : (w7.drewN nq).cell? (b.add (xs.length * 2)) = some (.bool x.hd) := c7h
          have HBx := hide (below_go (below_go HBW.out HB7.out) HBq.out)
          clear c70 c7h HI7 HBq HB7 HR7
          generalize w7.drewN nq = w8 at *
          have c81 : w8.cell? ⟨g7, 1, none⟩ = some (.string (Wd.mkS (x.plain t))) := HR8.out.cell 1 rfl
          go_quiet (first | (go_at_call 26; exact Calls.quiet_of_same (AI2.out _)))
          rw [mkS_app]
          have HBq := hide (below_drewN (Below.refl w8.heap.size w8) nq)
          have HI9 := hide (HI8.out.bel HBq.out)
          have HR9 := hide (HR8.out.below HBq.out)
          have e7h : (w8.drewN nq).cell? (b.add (xs.length * 2)) = some (.bool x.hd) := d7h
          clear c81 d7h HI8 HBq HR8 HBx
          generalize w8.drewN nq = w9x at *
          have hs9 := HI9.out.b.size
          have hg9 := HR9.out.lt
          have HNE7 : Hid (∀ j, (Value.slice pa xs.length pc).ownBlock = some j → j ≠ g7) := hide (fun j hj e => by have h1 := (own_ltI HI.out.p hj).2; have h2 := HG7.out; omega)
          clear q1 q2 q3 q4
          go_wp2_with (first
            | (at_builtin; refine wpList_push (f := txV t) (txV_len t) rfl _ _ 61 rfl W8.heap.size 9 i2 _ 16 Try.underlying61 hk1 hm0 hm1 hm2 rfl (by decide) _ xs x rfl ⟨_, 0, none⟩ rfl ?_ ?_ ?_ ?_ ?_ ?_ ?_; (exact HP1.out.2.1.alloc _); (exact newsL _ _ _); (exact txV_one t x); (unfold maxLen; omega); (omega); (simp; omega); intro ao2 cc2 w11 hown2 hbel2 hsame2 hat2; have HO2 := hide hown2; have HP2 := hide (push_twoI HP1.out.1 hs10 HO1.out (fun j h1 h2 => HP1.out.2.2 j h2 h1) hbel2 hsame2 hat2); clear hown2 hbel2 hsame2 hat2)
            | (at_builtin; refine wpList_push (f := ptV) ptV_len rfl _ _ 22 rfl W8.heap.size 34 i1 _ 32 Try.underlying22 hi1 hj0 hj1 hj2 rfl (by decide) _ xs x rfl ⟨_, 0, none⟩ rfl ?_ ?_ ?_ ?_ ?_ ?_ ?_; (exact HI9.out.p.alloc _); (exact newsL _ _ _); (exact ptV_one x); (unfold maxLen; omega); (omega); (simp; omega); intro ao1 cc1 w10 hown1 hbel1 hsame1 hat1; have HO1 := hide hown1; have HP1 := hide (push_twoI HI9.out.b hs9 HI9.out.x HI9.out.ne hbel1 hsame1 hat1); have c10 := ((HR9.out.alloc (.cells #[.bool x.hd, .slice none 0 0] 34)).same (hsame1 g7 (by simp; omega) (fun e => HNE7.out g7 e rfl))).cell 1 rfl; have hs10 := HP1.out.1.size; clear hown1 hbel1 hsame1 hat1))
          go_round
          case measure => simp [intOf]; omega
          case rel =>
            refine ⟨xs.length + 1, xs ++ [x], _, _, by omega, by omega, by go_num, by simp, rfl, ?_, rfl, ?_, ?_, ⟨HP2.out.1, ?_, ?_, ?_⟩⟩
            · rw [itR_snoc, ← HSX.out]
            · rw [plR_snoc, ← HOX.out]
            · intro y hy
              rcases List.mem_append.1 hy with h | h
              · exact HOK.out y h
              · simp at h; subst h; exact HXO.out
            · have := HP2.out.2.1; rw [List.length_append] at this ⊢; exact this
            · have := HO2.out; rw [List.length_append] at this ⊢; exact this
            · exact fun j h1 h2 => HP2.out.2.2 j h2 h1
        · have HBW := hide (below_go HB11.out HI.out.b)
          have hx3 : xs.length ≤ 3 := by omega
          have hrd := readP_inl HTK.out HOK.out hx3 front
          by_cases hx0 : xs = []
          · have hem : (Wd.mkS Ox).toList.isEmpty = true := by rw [mkS_toList, HOX.out, hx0]; rfl
            clear hrd
            have hempty : xs.length = 0 := by rw [hx0]; rfl
            clear hx0
            cases front
            · by_cases h1 : xs.length < ps.length
              · exfalso; exact hlt ⟨h1, by omega⟩
              · clear hlt
                go_wp2_with (first | (refine wpList_cat rfl 9 9 _ _ rfl _ _ rfl rfl ?_ ?_; (first | omega | (simp; omega))))
                go_ret
                exact ⟨rfl, HBW.out⟩
            · by_cases h1 : xs.length < ps.length
              · exfalso; exact hlt ⟨h1, by omega⟩
              · clear hlt
                go_wp2_with (first | (refine wpList_cat rfl 9 9 _ _ rfl _ _ rfl rfl ?_ ?_; (first | omega | (simp; omega))))
                go_ret
                exact ⟨rfl, HBW.out⟩
          · have hx1 : 0 < xs.length := List.length_pos_iff.2 hx0
            have hpl := readP_pl HTK.out HOK.out hx3 hx1
            have hem : (Wd.mkS Ox).toList.isEmpty = false := by
              rw [mkS_toList, HOX.out]
              cases hq : xs with
              | nil => exact absurd hq hx0
              | cons a r => rfl
            have HS2 : Hid (Src Ox (itsR t xs)) := hide ⟨by rw [HOX.out]; exact hpl.1, by rw [HOX.out]; exact hpl.2⟩
            have hil : (itsR t xs).length = xs.length := by simp [itsR]
            clear hx0 hpl
            cases front
            · have HS1 : Hid (Src (Sx ++ FT) (itsR t xs)) := hide (by rw [HSX.out, HFT.out, ← flat_app]; exact ⟨hrd.1, hrd.2⟩)
              have HAC : Hid (∀ W : World, Calls Try.prog 27 #[.string (Wd.mkS (Sx ++ FT))] W fun e w' => e = .returned (.tuple #[.int .i64 0, .int .i64 0]) ∧ Below W.heap.size W w') := hide (fun W => by
                have h := check_anyX (Wd.mkS (Sx ++ FT)) W (by rw [Wd.mkS_size]; have := HS1.out.len; unfold maxLen; omega)
                have e : Wd.checkPX (Wd.mkS (Sx ++ FT)).data.toList = (0, 0) := by unfold Wd.checkPX; rw [mkS_list, HS1.out.read]
                rw [e] at h
                exact h)
              have HAU : Hid (∀ W : World, Calls Try.prog 28 #[.string (Wd.mkS (Sx ++ FT))] W fun e w' => Below W.heap.size W w' ∧ ∃ g cap, e = .returned (.tuple #[.slice (some ⟨g, 0, none⟩) xs.length cap, .int .i64 0]) ∧ w'.ownsRow W.heap.size 69 2 (.slice (some ⟨g, 0, none⟩) (itsR t xs).length cap) (itsR t xs).length ((itsR t xs).flatMap Wd.itV)) := hide (fun W => by
                have h := wardenUnfold_anyX (Wd.mkS (Sx ++ FT)) W (by rw [Wd.mkS_size]; have := HS1.out.len; unfold maxLen; omega)
                rw [mkS_list, HS1.out.read] at h
                refine h.mono ?_
                rintro e w' ⟨hb, g, cap, rfl, ho⟩
                rw [hil] at ho ⊢
                exact ⟨hb, g, cap, rfl, ho⟩)
              clear hrd hil
              have hnl : (((xs.length : Nat) : Int) != ((xs.length : Nat) : Int)) = false := by simp
              by_cases h1 : xs.length < ps.length
              · have h2 : ¬ xs.length < 3 := fun h => hlt ⟨h1, h⟩
                clear hlt
                go_wp2_with (first | (refine wpList_cat rfl 9 9 _ _ rfl _ _ rfl rfl ?_ ?_; (first | omega | (simp; omega))))
                go_at_call 27
                refine (HAC.out _).mono ?_
                rintro e w12 ⟨rfl, hb12⟩
                have HI12 := hide (HI.out.bel hb12)
                clear hb12
                go_wp2_with fail
                go_at_call 28
                refine (HAU.out _).mono ?_
                rintro e w13 ⟨hb13, gu, cu, rfl, hown13⟩
                have HI13 := hide (HI12.out.bel hb13)
                have HO13 := hide hown13
                clear hb13 hown13 HI12
                go_wp2
                go_loopw [29] (fun a wr => ∃ j : Nat, j ≤ xs.length ∧ a = .int .i64 j ∧ Below w13.heap.size w13 wr) (fun a _ => xs.length - (intOf a).toNat)
                case atStart => exact ⟨0, Nat.zero_le _, rfl, Below.refl _ _⟩
                case round =>
                  obtain ⟨j, hj, rfl, hbe⟩ := hrel
                  have HBE := hide hbe
                  clear hbe
                  by_cases hjl : j < xs.length
                  · obtain ⟨ga, ca, hva, _, hga, _, _, hra⟩ := own_el ptV_len HI13.out.p (List.getElem?_eq_getElem hjl)
                    obtain ⟨gb, cb, hvb, _, hgb, _, _, hrb⟩ := own_el (txV_len t) HI13.out.x (List.getElem?_eq_getElem hjl)
                    obtain ⟨gc, cc, hvc, _, hgc, _, _, hrc⟩ := own_el itU_len HO13.out (List.getElem?_eq_getElem (show j < (itsR t xs).length by simp [itsR]; exact hjl))
                    cases hva
                    cases hvb
                    cases hvc
                    have d0 := (HBE.out.cell (p := ⟨ga, j * 2, none⟩) hga).trans (hra 0 _ rfl)
                    have d1 := (HBE.out.cell (p := ⟨gb, j * 1, none⟩) hgb).trans (hrb 0 _ rfl)
                    have d2 := (HBE.out.cell (p := ⟨gu, j * 2, none⟩) hgc).trans (hrc 0 _ rfl)
                    have d3 := (HBE.out.cell (p := ⟨gu, j * 2 + 1, none⟩) hgc).trans (hrc 1 _ rfl)
                    have ei : (itsR t xs)[j]'(by simp [itsR]; exact hjl) = ⟨xs[j].hd, xs[j].plain t⟩ := by simp [itsR]
                    rw [ei] at d2 d3
                    rw [Nat.mul_one] at d1
                    clear hra hrb hrc ei
                    generalize xs[j] = y at *
                    generalize hyp : y.plain t = Y at *
                    generalize y.hd = yh at *
                    have b0 : (yh != yh) = false := by simp
                    have b1 : ((Wd.mkS Y).toList != (Wd.mkS Y).toList) = false := by simp
                    have b2 : ((Wd.mkS Y).toList == (Wd.mkS Y).toList) = true := by simp
                    have hki : (j : Int) < (xs.length : Int) := by omega
                    have hk0 : (0 : Int) ≤ (j : Int) := by omega
                    go_wp2_with fail
                    go_quiet (fail)
                    go_wp2
                    exact ⟨⟨j + 1, by omega, by go_num, below_drewN HBE.out _⟩, by simp [intOf]; omega⟩
                  · have HBF := hide (below_go (below_go HB11.out HI13.out.b) HBE.out)
                    go_wp2_with (first
                      | (go_at_call 29; refine (HATL.out _ _ _ _ HS1.out HS2.out).mono ?_; rintro e w15 ⟨rfl, hb15⟩; have HB15 := hide (below_go HB14.out hb15); clear hb15)
                      | (go_at_call 11; refine (HA4.out _).mono ?_; rintro e w14 ⟨rfl, hb14⟩; have HB14 := hide (below_go HBF.out hb14); clear hb14)
                      | (go_at_call 10; refine (HA2.out _).mono ?_; rintro e w' ⟨rfl, hww⟩; obtain rfl := hww.symm; clear hww))
                    go_ret
                    exact ⟨rfl, HB15.out⟩
              · clear hlt
                go_wp2_with (first | (refine wpList_cat rfl 9 9 _ _ rfl _ _ rfl rfl ?_ ?_; (first | omega | (simp; omega))))
                go_at_call 27
                refine (HAC.out _).mono ?_
                rintro e w12 ⟨rfl, hb12⟩
                have HI12 := hide (HI.out.bel hb12)
                clear hb12
                go_wp2_with fail
                go_at_call 28
                refine (HAU.out _).mono ?_
                rintro e w13 ⟨hb13, gu, cu, rfl, hown13⟩
                have HI13 := hide (HI12.out.bel hb13)
                have HO13 := hide hown13
                clear hb13 hown13 HI12
                go_wp2
                go_loopw [29] (fun a wr => ∃ j : Nat, j ≤ xs.length ∧ a = .int .i64 j ∧ Below w13.heap.size w13 wr) (fun a _ => xs.length - (intOf a).toNat)
                case atStart => exact ⟨0, Nat.zero_le _, rfl, Below.refl _ _⟩
                case round =>
                  obtain ⟨j, hj, rfl, hbe⟩ := hrel
                  have HBE := hide hbe
                  clear hbe
                  by_cases hjl : j < xs.length
                  · obtain ⟨ga, ca, hva, _, hga, _, _, hra⟩ := own_el ptV_len HI13.out.p (List.getElem?_eq_getElem hjl)
                    obtain ⟨gb, cb, hvb, _, hgb, _, _, hrb⟩ := own_el (txV_len t) HI13.out.x (List.getElem?_eq_getElem hjl)
                    obtain ⟨gc, cc, hvc, _, hgc, _, _, hrc⟩ := own_el itU_len HO13.out (List.getElem?_eq_getElem (show j < (itsR t xs).length by simp [itsR]; exact hjl))
                    cases hva
                    cases hvb
                    cases hvc
                    have d0 := (HBE.out.cell (p := ⟨ga, j * 2, none⟩) hga).trans (hra 0 _ rfl)
                    have d1 := (HBE.out.cell (p := ⟨gb, j * 1, none⟩) hgb).trans (hrb 0 _ rfl)
                    have d2 := (HBE.out.cell (p := ⟨gu, j * 2, none⟩) hgc).trans (hrc 0 _ rfl)
                    have d3 := (HBE.out.cell (p := ⟨gu, j * 2 + 1, none⟩) hgc).trans (hrc 1 _ rfl)
                    have ei : (itsR t xs)[j]'(by simp [itsR]; exact hjl) = ⟨xs[j].hd, xs[j].plain t⟩ := by simp [itsR]
                    rw [ei] at d2 d3
                    rw [Nat.mul_one] at d1
                    clear hra hrb hrc ei
                    generalize xs[j] = y at *
                    generalize hyp : y.plain t = Y at *
                    generalize y.hd = yh at *
                    have b0 : (yh != yh) = false := by simp
                    have b1 : ((Wd.mkS Y).toList != (Wd.mkS Y).toList) = false := by simp
                    have b2 : ((Wd.mkS Y).toList == (Wd.mkS Y).toList) = true := by simp
                    have hki : (j : Int) < (xs.length : Int) := by omega
                    have hk0 : (0 : Int) ≤ (j : Int) := by omega
                    go_wp2_with fail
                    go_quiet (fail)
                    go_wp2
                    exact ⟨⟨j + 1, by omega, by go_num, below_drewN HBE.out _⟩, by simp [intOf]; omega⟩
                  · have HBF := hide (below_go (below_go HB11.out HI13.out.b) HBE.out)
                    go_wp2_with (first
                      | (go_at_call 29; refine (HATL.out _ _ _ _ HS1.out HS2.out).mono ?_; rintro e w15 ⟨rfl, hb15⟩; have HB15 := hide (below_go HB14.out hb15); clear hb15)
                      | (go_at_call 11; refine (HA4.out _).mono ?_; rintro e w14 ⟨rfl, hb14⟩; have HB14 := hide (below_go HBF.out hb14); clear hb14)
                      | (go_at_call 10; refine (HA2.out _).mono ?_; rintro e w' ⟨rfl, hww⟩; obtain rfl := hww.symm; clear hww))
                    go_ret
                    exact ⟨rfl, HB15.out⟩
            · have HS1 : Hid (Src (FT ++ Sx) (itsR t xs)) := hide (by rw [HSX.out, HFT.out, ← flat_app]; exact ⟨hrd.1, hrd.2⟩)
              have HAC : Hid (∀ W : World, Calls Try.prog 27 #[.string (Wd.mkS (FT ++ Sx))] W fun e w' => e = .returned (.tuple #[.int .i64 0, .int .i64 0]) ∧ Below W.heap.size W w') := hide (fun W => by
                have h := check_anyX (Wd.mkS (FT ++ Sx)) W (by rw [Wd.mkS_size]; have := HS1.out.len; unfold maxLen; omega)
                have e : Wd.checkPX (Wd.mkS (FT ++ Sx)).data.toList = (0, 0) := by unfold Wd.checkPX; rw [mkS_list, HS1.out.read]
                rw [e] at h
                exact h)
              have HAU : Hid (∀ W : World, Calls Try.prog 28 #[.string (Wd.mkS (FT ++ Sx))] W fun e w' => Below W.heap.size W w' ∧ ∃ g cap, e = .returned (.tuple #[.slice (some ⟨g, 0, none⟩) xs.length cap, .int .i64 0]) ∧ w'.ownsRow W.heap.size 69 2 (.slice (some ⟨g, 0, none⟩) (itsR t xs).length cap) (itsR t xs).length ((itsR t xs).flatMap Wd.itV)) := hide (fun W => by
                have h := wardenUnfold_anyX (Wd.mkS (FT ++ Sx)) W (by rw [Wd.mkS_size]; have := HS1.out.len; unfold maxLen; omega)
                rw [mkS_list, HS1.out.read] at h
                refine h.mono ?_
                rintro e w' ⟨hb, g, cap, rfl, ho⟩
                rw [hil] at ho ⊢
                exact ⟨hb, g, cap, rfl, ho⟩)
              clear hrd hil
              have hnl : (((xs.length : Nat) : Int) != ((xs.length : Nat) : Int)) = false := by simp
              by_cases h1 : xs.length < ps.length
              · have h2 : ¬ xs.length < 3 := fun h => hlt ⟨h1, h⟩
                clear hlt
                go_wp2_with (first | (refine wpList_cat rfl 9 9 _ _ rfl _ _ rfl rfl ?_ ?_; (first | omega | (simp; omega))))
                go_at_call 27
                refine (HAC.out _).mono ?_
                rintro e w12 ⟨rfl, hb12⟩
                have HI12 := hide (HI.out.bel hb12)
                clear hb12
                go_wp2_with fail
                go_at_call 28
                refine (HAU.out _).mono ?_
                rintro e w13 ⟨hb13, gu, cu, rfl, hown13⟩
                have HI13 := hide (HI12.out.bel hb13)
                have HO13 := hide hown13
                clear hb13 hown13 HI12
                go_wp2
                go_loopw [29] (fun a wr => ∃ j : Nat, j ≤ xs.length ∧ a = .int .i64 j ∧ Below w13.heap.size w13 wr) (fun a _ => xs.length - (intOf a).toNat)
                case atStart => exact ⟨0, Nat.zero_le _, rfl, Below.refl _ _⟩
                case round =>
                  obtain ⟨j, hj, rfl, hbe⟩ := hrel
                  have HBE := hide hbe
                  clear hbe
                  by_cases hjl : j < xs.length
                  · obtain ⟨ga, ca, hva, _, hga, _, _, hra⟩ := own_el ptV_len HI13.out.p (List.getElem?_eq_getElem hjl)
                    obtain ⟨gb, cb, hvb, _, hgb, _, _, hrb⟩ := own_el (txV_len t) HI13.out.x (List.getElem?_eq_getElem hjl)
                    obtain ⟨gc, cc, hvc, _, hgc, _, _, hrc⟩ := own_el itU_len HO13.out (List.getElem?_eq_getElem (show j < (itsR t xs).length by simp [itsR]; exact hjl))
                    cases hva
                    cases hvb
                    cases hvc
                    have d0 := (HBE.out.cell (p := ⟨ga, j * 2, none⟩) hga).trans (hra 0 _ rfl)
                    have d1 := (HBE.out.cell (p := ⟨gb, j * 1, none⟩) hgb).trans (hrb 0 _ rfl)
                    have d2 := (HBE.out.cell (p := ⟨gu, j * 2, none⟩) hgc).trans (hrc 0 _ rfl)
                    have d3 := (HBE.out.cell (p := ⟨gu, j * 2 + 1, none⟩) hgc).trans (hrc 1 _ rfl)
                    have ei : (itsR t xs)[j]'(by simp [itsR]; exact hjl) = ⟨xs[j].hd, xs[j].plain t⟩ := by simp [itsR]
                    rw [ei] at d2 d3
                    rw [Nat.mul_one] at d1
                    clear hra hrb hrc ei
                    generalize xs[j] = y at *
                    generalize hyp : y.plain t = Y at *
                    generalize y.hd = yh at *
                    have b0 : (yh != yh) = false := by simp
                    have b1 : ((Wd.mkS Y).toList != (Wd.mkS Y).toList) = false := by simp
                    have b2 : ((Wd.mkS Y).toList == (Wd.mkS Y).toList) = true := by simp
                    have hki : (j : Int) < (xs.length : Int) := by omega
                    have hk0 : (0 : Int) ≤ (j : Int) := by omega
                    go_wp2_with fail
                    go_quiet (fail)
                    go_wp2
                    exact ⟨⟨j + 1, by omega, by go_num, below_drewN HBE.out _⟩, by simp [intOf]; omega⟩
                  · have HBF := hide (below_go (below_go HB11.out HI13.out.b) HBE.out)
                    go_wp2_with (first
                      | (go_at_call 29; refine (HATL.out _ _ _ _ HS1.out HS2.out).mono ?_; rintro e w15 ⟨rfl, hb15⟩; have HB15 := hide (below_go HB14.out hb15); clear hb15)
                      | (go_at_call 11; refine (HA4.out _).mono ?_; rintro e w14 ⟨rfl, hb14⟩; have HB14 := hide (below_go HBF.out hb14); clear hb14)
                      | (go_at_call 10; refine (HA2.out _).mono ?_; rintro e w' ⟨rfl, hww⟩; obtain rfl := hww.symm; clear hww))
                    go_ret
                    exact ⟨rfl, HB15.out⟩
              · clear hlt
                go_wp2_with (first | (refine wpList_cat rfl 9 9 _ _ rfl _ _ rfl rfl ?_ ?_; (first | omega | (simp; omega))))
                go_at_call 27
                refine (HAC.out _).mono ?_
                rintro e w12 ⟨rfl, hb12⟩
                have HI12 := hide (HI.out.bel hb12)
                clear hb12
                go_wp2_with fail
                go_at_call 28
                refine (HAU.out _).mono ?_
                rintro e w13 ⟨hb13, gu, cu, rfl, hown13⟩
                have HI13 := hide (HI12.out.bel hb13)
                have HO13 := hide hown13
                clear hb13 hown13 HI12
                go_wp2
                go_loopw [29] (fun a wr => ∃ j : Nat, j ≤ xs.length ∧ a = .int .i64 j ∧ Below w13.heap.size w13 wr) (fun a _ => xs.length - (intOf a).toNat)
                case atStart => exact ⟨0, Nat.zero_le _, rfl, Below.refl _ _⟩
                case round =>
                  obtain ⟨j, hj, rfl, hbe⟩ := hrel
                  have HBE := hide hbe
                  clear hbe
                  by_cases hjl : j < xs.length
                  · obtain ⟨ga, ca, hva, _, hga, _, _, hra⟩ := own_el ptV_len HI13.out.p (List.getElem?_eq_getElem hjl)
                    obtain ⟨gb, cb, hvb, _, hgb, _, _, hrb⟩ := own_el (txV_len t) HI13.out.x (List.getElem?_eq_getElem hjl)
                    obtain ⟨gc, cc, hvc, _, hgc, _, _, hrc⟩ := own_el itU_len HO13.out (List.getElem?_eq_getElem (show j < (itsR t xs).length by simp [itsR]; exact hjl))
                    cases hva
                    cases hvb
                    cases hvc
                    have d0 := (HBE.out.cell (p := ⟨ga, j * 2, none⟩) hga).trans (hra 0 _ rfl)
                    have d1 := (HBE.out.cell (p := ⟨gb, j * 1, none⟩) hgb).trans (hrb 0 _ rfl)
                    have d2 := (HBE.out.cell (p := ⟨gu, j * 2, none⟩) hgc).trans (hrc 0 _ rfl)
                    have d3 := (HBE.out.cell (p := ⟨gu, j * 2 + 1, none⟩) hgc).trans (hrc 1 _ rfl)
                    have ei : (itsR t xs)[j]'(by simp [itsR]; exact hjl) = ⟨xs[j].hd, xs[j].plain t⟩ := by simp [itsR]
                    rw [ei] at d2 d3
                    rw [Nat.mul_one] at d1
                    clear hra hrb hrc ei
                    generalize xs[j] = y at *
                    generalize hyp : y.plain t = Y at *
                    generalize y.hd = yh at *
                    have b0 : (yh != yh) = false := by simp
                    have b1 : ((Wd.mkS Y).toList != (Wd.mkS Y).toList) = false := by simp
                    have b2 : ((Wd.mkS Y).toList == (Wd.mkS Y).toList) = true := by simp
                    have hki : (j : Int) < (xs.length : Int) := by omega
                    have hk0 : (0 : Int) ≤ (j : Int) := by omega
                    go_wp2_with fail
                    go_quiet (fail)
                    go_wp2
                    exact ⟨⟨j + 1, by omega, by go_num, below_drewN HBE.out _⟩, by simp [intOf]; omega⟩
                  · have HBF := hide (below_go (below_go HB11.out HI13.out.b) HBE.out)
                    go_wp2_with (first
                      | (go_at_call 29; refine (HATL.out _ _ _ _ HS1.out HS2.out).mono ?_; rintro e w15 ⟨rfl, hb15⟩; have HB15 := hide (below_go HB14.out hb15); clear hb15)
                      | (go_at_call 11; refine (HA4.out _).mono ?_; rintro e w14 ⟨rfl, hb14⟩; have HB14 := hide (below_go HBF.out hb14); clear hb14)
                      | (go_at_call 10; refine (HA2.out _).mono ?_; rintro e w' ⟨rfl, hww⟩; obtain rfl := hww.symm; clear hww))
                    go_ret
                    exact ⟨rfl, HB15.out⟩
end Go.Proofs.Ytecmfdkhcffpmab
