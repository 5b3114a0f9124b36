/- DocE, TbK, StF, StH, StD. -/
import Derived.Test.YtecmfdkhcffpmaaB40
import Derived.OwnWalk
import Derived.Test.YtecmfdkhcffpmaaB18
import Derived.Test.YtecmfdkhcffpmaaB28
import Derived.Test.YtecmfdkhcffpmaaB22
import Derived.Test.YtecmfdkhcffpmaaB31
import Derived.Deep.MidRow
import Derived.Test.YtecmfdkhcffpmaaB39
/- Contracts of the document's states: what is known of a source. -/
namespace Go.Proofs.Ytecmfdkhcffpmaa
open Go.RowKit
set_option linter.unusedSimpArgs false
set_option linter.unusedVariables false
set_option maxHeartbeats 8000000
open Mc

/-- What the document's Unfold leaves. -/
def DUPost (w : World) (r : Except (Int × Int) (List Wd.It)) (e : Ending) (w' : World) : Prop :=
  Below w.heap.size w w' ∧ (match r with
    | .ok its => ∃ ao cc, e = .returned (.tuple #[.slice ao its.length cc, .int .i64 0]) ∧ w'.ownsRow w.heap.size 31 2 (.slice ao its.length cc) its.length (Wd.itsV its)
    | .error x => e = .returned (.tuple #[.slice none 0 0, .int .i64 x.1]))
theorem dUnfold_any (s : ByteArray) (w : World) (hs : s.size ≤ maxLen) : Calls Try.prog 16 #[.string s] w (DUPost w (Wd.readP s.data.toList)) := by
  cases hr : Wd.readP s.data.toList with
  | ok its =>
    obtain ⟨g1, g2, g3, g4⟩ := Wd.readP_good hr
    have hok : (Wd.checkR s.data.toList).1 = 0 := by rw [← Wd.check_same, Wd.checkP, hr]
    have h240 : s.size ≤ 240 := by rw [← Wd.len_str]; exact g1
    refine (refUnfold_ok s w h240 hok g4).mono ?_
    rintro e w' ⟨v, rfl, hown, hb⟩
    rw [← g2] at hown
    obtain ⟨ao, cc, rfl⟩ := own_v hown
    exact ⟨hb, ao, cc, rfl, hown⟩
  | error x =>
    have hc : (Wd.checkR s.data.toList).1 = x.1 := by rw [← Wd.check_same, Wd.checkP, hr]
    have hx := Wd.readP_err hr
    have h := refUnfold_no s w hs (by rw [hc]; exact hx)
    rw [hc] at h
    refine h.mono ?_
    rintro e w' ⟨rfl, hb⟩
    exact ⟨hb, rfl⟩
/-- The states of an item, in memory. -/
structure Dk where
  go : Nat
  n1 : Nat
  cap : Nat
  gs : Nat → Nat
def dkV (d : Dk) : List Value := [.slice (some ⟨d.go, 0, none⟩) d.n1 d.cap]
theorem dkV_len (d : Dk) : (dkV d).length = 1 := rfl
structure DkIn (w : World) (hd : Bool) (b : List UInt8) (d : Dk) : Prop where
  dt : DT w d.go d.gs b.length (inDb hd b)
  n1 : d.n1 = b.length + 1
theorem DkIn.below {w w' : World} {hd : Bool} {b : List UInt8} {d : Dk} (h : DkIn w hd b d) (hb : Below w.heap.size w w') : DkIn w' hd b d := ⟨h.dt.below hb, h.n1⟩
/-- All that is known, in memory. -/
structure DkAll (w : World) (its : List Wd.It) (iv dv : Value) (D : List Dk) : Prop where
  items : w.ownsRow 0 31 2 iv its.length (its.flatMap Wd.itV)
  own : w.ownsRow 0 139 1 dv D.length (D.flatMap dkV)
  each : ∀ i d, D[i]? = some d → DkIn w (isH its i) (bodyOf its i) d
  len : D.length = its.length
  fine : Fine its
theorem DkAll.below {w w' : World} {its : List Wd.It} {iv dv : Value} {D : List Dk} (h : DkAll w its iv dv D) (hb : Below w.heap.size w w') : DkAll w' its iv dv D := ⟨own_belowZ h.items hb, own_belowZ h.own hb, fun i d hd => (h.each i d hd).below hb, h.len, h.fine⟩
/-- While it is gathered. -/
structure DkI (w W : World) (its : List Wd.It) (v : Value) (D : List Dk) : Prop where
  own : W.ownsRow w.heap.size 139 1 v D.length (D.flatMap dkV)
  each : ∀ i d, D[i]? = some d → DkIn W (isH its i) (bodyOf its i) d ∧ v.ownBlock ≠ some d.go ∧ ∀ p, p ≤ (bodyOf its i).length → v.ownBlock ≠ some (d.gs p)
  b : Below w.heap.size w W
theorem DkI.push {w W W1 W' : World} {its : List Wd.It} {v v' : Value} {D : List Dk} {d : Dk} {o : Obj} (h : DkI w W its v D) (hb1 : Below W.heap.size W W1) (hin : DkIn W1 (isH its D.length) (bodyOf its D.length) d) (h1 : W.heap.size ≤ d.go) (h2 : ∀ p, p ≤ (bodyOf its D.length).length → W.heap.size ≤ d.gs p) (ho : W'.ownsRow w.heap.size 139 1 v' (D ++ [d]).length ((D ++ [d]).flatMap dkV)) (hb : Below w.heap.size (W1.alloc o) W') (hs : ∀ j, j < (W1.alloc o).heap.size → v.ownBlock ≠ some j → W'.heap[j]? = (W1.alloc o).heap[j]?) (hat : v'.ownBlock = v.ownBlock ∨ v'.ownBlock = some (W1.alloc o).heap.size) : DkI w W' its v' (D ++ [d]) := by
  have hz := h.b.size
  have hz1 := hb1.size
  have key : ∀ (hd : Bool) (b : List UInt8) (x : Dk), DkIn W1 hd b x → v.ownBlock ≠ some x.go → (∀ p, p ≤ b.length → v.ownBlock ≠ some (x.gs p)) → DkIn W' hd b x ∧ v'.ownBlock ≠ some x.go ∧ ∀ p, p ≤ b.length → v'.ownBlock ≠ some (x.gs p) := by
    intro hd b x hx n1 n2
    have hl := hx.dt.out.lt
    have hl2 := fun p hp => (hx.dt.inn p hp).lt
    have hsame : ∀ j, j < W1.heap.size → v.ownBlock ≠ some j → W'.heap[j]? = W1.heap[j]? := fun j hj hn => by rw [hs j (by simp; omega) hn, heap_alloc_old _ _ hj]
    have hnew : ∀ j, j < W1.heap.size → v.ownBlock ≠ some j → v'.ownBlock ≠ some j := fun j hj hn e => by
      rcases hat with a | a
      · rw [a] at e; exact hn e
      · rw [a] at e; injection e with e; simp at e; omega
    exact ⟨⟨⟨hx.dt.out.same (hsame _ hl n1), fun p hp => (hx.dt.inn p hp).same (hsame _ (hl2 p hp) (n2 p hp)), hx.dt.inj, hx.dt.ne⟩, hx.n1⟩, hnew _ hl n1, fun p hp => hnew _ (hl2 p hp) (n2 p hp)⟩
  refine ⟨ho, fun i x hx => ?_, ((h.b.trans (hb1.mono (by omega))).alloc (by omega) o).trans hb⟩
  by_cases hl : i < D.length
  · rw [List.getElem?_append_left hl] at hx
    obtain ⟨a1, a2, a3⟩ := h.each i x hx
    exact key _ _ x (a1.below hb1) a2 a3
  · rw [List.getElem?_append_right (by omega)] at hx
    have e : i - D.length = 0 := by
      by_cases e : i - D.length = 0
      · exact e
      · rw [List.getElem?_eq_none (by simp; omega)] at hx; cases hx
    rw [e] at hx
    cases hx
    have ei : i = D.length := by omega
    subst ei
    have hlow : ∀ j, W.heap.size ≤ j → v.ownBlock ≠ some j := fun j hj e => by have := (own_lt0' h.own e).2; omega
    exact key _ _ d hin (hlow _ h1) (fun p hp => hlow _ (h2 p hp))
theorem Try.infoBB : (Try.prog.info? 139).map (fun i => (i.zero, i.size, i.bytes)) = some (some (.slice none 0 0), 1, 24) := by kernel_rfl
theorem items_cells {w : World} {base : Nat} {v : Value} {its : List Wd.It} (h : w.ownsRow base 31 2 v its.length (its.flatMap Wd.itV)) {k : Nat} (hk : k < its.length) : ∃ g cap, v = .slice (some ⟨g, 0, none⟩) its.length cap ∧ g < w.heap.size ∧ w.cell? ⟨g, k * 2, none⟩ = some (.bool (isH its k)) ∧ w.cell? ⟨g, k * 2 + 1, none⟩ = some (.string (Wd.mkS (bodyOf its k))) := by
  obtain ⟨g, cap, hv, hb, hlt, h1, h2, hr⟩ := own_el (f := Wd.itV) (n := 2) (L := its) (fun _ => rfl) h (i := k) (r := its[k]) (List.getElem?_eq_getElem hk)
  have e1 : isH its k = its[k].handler := by simp [isH, List.getD, hk]
  have e2 : bodyOf its k = its[k].body := by simp [bodyOf, List.getD, hk]
  rw [e1, e2]
  exact ⟨g, cap, hv, hlt, hr 0 _ rfl, hr 1 _ rfl⟩
/-- What 'known' leaves. -/
def KPost (w : World) (r : Except (Int × Int) (List Wd.It)) (e : Ending) (w' : World) : Prop :=
  Below w.heap.size w w' ∧ (match r with
    | .ok its => ∃ ia ic da dc D, e = .returned (.tuple #[.slice ia its.length ic, .slice da its.length dc, .int .i64 0]) ∧ DkAll w' its (.slice ia its.length ic) (.slice da its.length dc) D
    | .error x => e = .returned (.tuple #[.slice none 0 0, .slice none 0 0, .int .i64 x.1]))
set_option maxRecDepth 100000 in
theorem known_err (s : ByteArray) (w : World) (x : Int × Int) (hs : s.size ≤ maxLen) (hread : Wd.readP s.data.toList = .error x) : Calls Try.prog 59 #[.string s] w (KPost w (.error x)) := by
  have hx := Wd.readP_err hread
  have HX := dUnfold_any s w hs
  rw [hread] at HX
  have HXX := hide HX
  clear HX hread
  go_enter Try.func59, Try.ntmps59
  go_wp2_with (go_at_call 16; refine HXX.out.mono ?_; rintro e w1 ⟨hb1, rfl⟩; have HB1 := hide hb1; clear hb1)
  go_ret3
  exact ⟨HB1.out, rfl⟩
set_option maxRecDepth 100000 in
theorem known_ok (s : ByteArray) (w : World) (its : List Wd.It) (hs : s.size ≤ maxLen) (hread : Wd.readP s.data.toList = .ok its) : Calls Try.prog 59 #[.string s] w (KPost w (.ok its)) := by
  have HF := hide (fine_of hread)
  have HX := dUnfold_any s w hs
  rw [hread] at HX
  have HXX := hide HX
  clear HX hread
  have hl8 := HF.out.len
  obtain ⟨i0, hj0, hz0, hz1, hz2⟩ := info_parts Try.infoBB
  go_enter Try.func59, Try.ntmps59
  go_wp2_with (go_at_call 16; refine HXX.out.mono ?_; rintro e w1 ⟨hb1, ia, ic, rfl, hown1⟩; have HB1 := hide hb1; have HO1 := hide hown1; clear hb1 hown1)
  have HD0 : Hid (DkI w1 w1 its (.slice none 0 0) []) := hide ⟨World.ownsRow_nil _ _ _ _, fun i d hd => (by cases hd), Below.refl _ _⟩
  go_loopw [7, 8] (fun a c wr => ∃ (i : Nat) (D : List Dk), i ≤ its.length ∧ D.length = i ∧ c = .int .i64 i ∧ DkI w1 wr its a D) (fun _ c _ => its.length - (intOf c).toNat)
  case atStart => exact ⟨0, [], by omega, rfl, rfl, HD0.out⟩
  case round =>
    clear HD0
    obtain ⟨i, D, hi, hDl, rfl, hdk⟩ := hrel
    subst hDl
    have HD := hide hdk
    clear hdk
    obtain ⟨ao, cc, hv⟩ := own_v HD.out.own
    subst hv
    by_cases hlt : D.length < its.length
    · obtain ⟨g0, cap0, hv0, hg0, d0, d1⟩ := items_cells HO1.out hlt
      cases hv0
      have c0 : wr.cell? ⟨g0, D.length * 2, none⟩ = some (.bool (isH its D.length)) := by rw [HD.out.b.cell (by exact hg0)]; exact d0
      have c1 : wr.cell? ⟨g0, D.length * 2 + 1, none⟩ = some (.string (Wd.mkS (bodyOf its D.length))) := by rw [HD.out.b.cell (by exact hg0)]; exact d1
      have AS := hide (states_any (isH its D.length) (bodyOf its D.length) wr (HF.out.gb hlt))
      have hi0 : (0 : Int) ≤ (D.length : Int) := by omega
      have hsz := HD.out.b.size
      have hbl : (bodyOf its D.length).length ≤ 300 := HF.out.short _ hlt
      clear d0 d1
      go_wp2_with (first | (at_builtin; refine wpList_push (f := dkV) dkV_len rfl _ _ 86 rfl w1.heap.size 139 i0 _ 24 Try.underlying86 hj0 hz0 hz1 hz2 rfl (by decide) _ D ⟨go, n1, cap, gs⟩ rfl ⟨_, 0, none⟩ rfl ?_ ?_ ?_ ?_ ?_ ?_ ?_; (exact HOW.out.alloc _); (exact newsL _ _ _); (intro x hx; simp [dkV] at hx; subst hx; rfl); (unfold maxLen; omega); (omega); (simp; omega); intro ao' cc' w5 hown' hbel' hsame' hat'; have HO5 := hide hown'; have HBL5 := hide hbel'; have HS5 := hide hsame'; have HAT5 := hide hat'; clear hown' hbel' hsame' hat') | (go_at_call 90; refine (AS.out).mono ?_; rintro e w2 ⟨go, cap, gs, rfl, hgo, hgs, hdt, hb2⟩; have HB2 := hide hb2; have HDT := hide hdt; have HGO := hide hgo; have HGS := hide hgs; have HOW := hide (own_same HD.out.own (fun j _ hl => hb2.block j hl)); have hz2' := hb2.size; obtain ⟨n1, hn1⟩ : ∃ n1, (bodyOf its D.length).length + 1 = n1 := ⟨_, rfl⟩; rw [hn1]; have HN1 := hide hn1; clear hb2 hdt hgo hgs hn1))
      go_round
      case measure => simp [intOf]; omega
      case rel => exact ⟨D.length + 1, D ++ [⟨go, n1, cap, gs⟩], by omega, by simp, by go_num, HD.out.push HB2.out ⟨HDT.out, HN1.out.symm⟩ HGO.out HGS.out HO5.out HBL5.out HS5.out HAT5.out⟩
    · have e : D.length = its.length := by omega
      have HE : Hid (DkAll wr its (.slice ia its.length ic) (.slice ao D.length cc) D) := hide ⟨own_belowZ (own_mono HO1.out (Nat.zero_le _)) HD.out.b, own_mono HD.out.own (Nat.zero_le _), fun i d hd => (HD.out.each i d hd).1, e, HF.out⟩
      rw [e] at HE
      have HEE := hide e
      clear e
      go_wp2
      go_ret3
      exact ⟨below_go HB1.out HD.out.b, ia, ic, ao, cc, D, by rw [← HEE.out]; rfl, HE.out⟩
theorem known_any (s : ByteArray) (w : World) (hs : s.size ≤ maxLen) : Calls Try.prog 59 #[.string s] w (KPost w (Wd.readP s.data.toList)) := by
  cases hr : Wd.readP s.data.toList with
  | ok its => exact known_ok s w its hs hr
  | error x => exact known_err s w x hs hr
end Go.Proofs.Ytecmfdkhcffpmaa
/- Tables and sets of visits, held by value. -/
namespace Go.Proofs.Ytecmfdkhcffpmaa
open Go.RowKit
set_option linter.unusedSimpArgs false
set_option linter.unusedVariables false
set_option maxHeartbeats 8000000
/-- Bools in a row. -/
def bsA (n : Nat) (f : Nat → Bool) : Array Value := ((List.range n).map (fun i => Value.bool (f i))).toArray
theorem bsA_size (n : Nat) (f : Nat → Bool) : (bsA n f).size = n := by simp [bsA]
theorem bsA_at (n : Nat) (f : Nat → Bool) (i : Nat) (hi : i < n) : (bsA n f)[i]? = some (.bool (f i)) := by simp [bsA, hi]
theorem bsA_one (n : Nat) (f : Nat → Bool) : (bsA n f).all (·.oneCell') = true := by simp [bsA, Value.oneCell']
theorem bsA_congr {n : Nat} {f g : Nat → Bool} (h : ∀ i, i < n → f i = g i) : bsA n f = bsA n g := by
  unfold bsA
  congr 1
  refine List.map_congr_left (fun i hi => ?_)
  rw [h i (List.mem_range.1 hi)]
theorem bsA_set (n : Nat) (f : Nat → Bool) (k : Nat) (v : Bool) : (bsA n f).setIfInBounds k (.bool v) = bsA n (fun i => if i = k then v else f i) := by
  apply Array.ext_getElem?
  intro i
  rw [Array.getElem?_setIfInBounds]
  by_cases hi : i < n
  · rw [bsA_at n (fun i => if i = k then v else f i) _ hi]
    by_cases e : k = i
    · subst e; rw [if_pos rfl, bsA_size, if_pos hi, if_pos rfl]
    · rw [if_neg e, bsA_at _ _ _ hi, if_neg (fun h => e h.symm)]
  · rw [Array.getElem?_eq_none (xs := bsA n (fun i => if i = k then v else f i)) (by rw [bsA_size]; omega)]
    by_cases e : k = i
    · subst e; rw [if_pos rfl, bsA_size, if_neg hi]
    · rw [if_neg e, Array.getElem?_eq_none (by rw [bsA_size]; omega)]
/-- A table, as it lies in memory. -/
def tbA (T : Tb) : Array Value := bsA 36 (fun i => T (i / 6) (i % 6))
theorem tbA_size (T : Tb) : (tbA T).size = 36 := bsA_size _ _
theorem tbA_one (T : Tb) : (tbA T).all (·.oneCell') = true := bsA_one _ _
theorem tbA_at (T : Tb) (l m : Nat) (hl : l < 6) (hm : m < 6) : (tbA T)[l * 6 + m]? = some (.bool (T l m)) := by
  unfold tbA
  rw [bsA_at _ _ _ (by omega), show (l * 6 + m) / 6 = l by omega, show (l * 6 + m) % 6 = m by omega]
theorem tbA_set (T : Tb) (l m : Nat) (hl : l < 6) (hm : m < 6) (v : Bool) : (tbA T).setIfInBounds (l * 6 + m) (.bool v) = tbA (upT T l m v) := by
  unfold tbA
  rw [bsA_set]
  refine bsA_congr (fun i hi => ?_)
  unfold upT
  by_cases e : i = l * 6 + m
  · rw [if_pos e, if_pos (by omega)]
  · rw [if_neg e, if_neg (by omega)]
theorem tbA_congr {T U : Tb} (h : ∀ l, l < 6 → ∀ m, m < 6 → T l m = U l m) : tbA T = tbA U := bsA_congr (fun i hi => h _ (by omega) _ (by omega))
/-- Visits, as they lie in memory. -/
def viA (v : Vi) : Array Value := bsA 128 (fun i => if i < 64 then v.wr i else v.ei (i - 64))
theorem viA_ei (v : Vi) (x : Nat) (hx : x < 64) : (viA v)[64 + x]? = some (.bool (v.ei x)) := by
  unfold viA; rw [bsA_at _ _ _ (by omega), if_neg (by omega), show 64 + x - 64 = x by omega]
theorem viA_setE (v : Vi) (k : Nat) (hk : k < 64) (b : Bool) : (viA v).setIfInBounds (64 + k) (.bool b) = viA ⟨v.wr, fun x => if x = k then b else v.ei x⟩ := by
  unfold viA
  rw [bsA_set]
  refine bsA_congr (fun i hi => ?_)
  by_cases e : i = 64 + k
  · subst e; rw [if_pos rfl, if_neg (by omega)]; simp
  · rw [if_neg e]
    by_cases h : i < 64
    · rw [if_pos h, if_pos h]
    · rw [if_neg h, if_neg h]
      show _ = if i - 64 = k then b else v.ei (i - 64)
      rw [if_neg (by omega)]
theorem viA_setW (v : Vi) (k : Nat) (hk : k < 64) (b : Bool) : (viA v).setIfInBounds k (.bool b) = viA ⟨fun x => if x = k then b else v.wr x, v.ei⟩ := by
  unfold viA
  rw [bsA_set]
  refine bsA_congr (fun i hi => ?_)
  by_cases e : i = k
  · subst e; rw [if_pos rfl, if_pos (by omega)]; simp
  · rw [if_neg e]
    by_cases h : i < 64
    · rw [if_pos h, if_pos h]
      show _ = if i = k then b else v.wr i
      rw [if_neg e]
    · rw [if_neg h, if_neg h]
def noVi : Vi := ⟨fun _ => false, fun _ => false⟩
end Go.Proofs.Ytecmfdkhcffpmaa
/- Contracts of the program's reports: tables of edges. -/
namespace Go.Proofs.Ytecmfdkhcffpmaa
open Go.RowKit
set_option linter.unusedSimpArgs false
set_option linter.unusedVariables false
set_option maxHeartbeats 8000000
open Mc

theorem Row.four (w : World) (a b c d : Array Value) (s t u v : TypeId) : Row ((((w.alloc (.cells a s)).alloc (.cells b t)).alloc (.cells c u)).alloc (.cells d v)) w.heap.size a s ∧ Row ((((w.alloc (.cells a s)).alloc (.cells b t)).alloc (.cells c u)).alloc (.cells d v)) (w.heap.size + 1) b t ∧ Row ((((w.alloc (.cells a s)).alloc (.cells b t)).alloc (.cells c u)).alloc (.cells d v)) (w.heap.size + 2) c u ∧ Row ((((w.alloc (.cells a s)).alloc (.cells b t)).alloc (.cells c u)).alloc (.cells d v)) (w.heap.size + 3) d v := by
  obtain ⟨h1, h2, h3⟩ := Row.three w a b c s t u
  refine ⟨h1.alloc _, h2.alloc _, h3.alloc _, ?_⟩
  have := Row.new (((w.alloc (.cells a s)).alloc (.cells b t)).alloc (.cells c u)) d v
  simpa using this
theorem below_four (w : World) (a b c d : Obj) : Below w.heap.size w ((((w.alloc a).alloc b).alloc c).alloc d) := (below_three w a b c).alloc (by simp; omega) d
/-- edges.with, so far -/
def wt (T : Tb) (fa fb : Nat → Bool) (l m : Nat) : Tb := fun x y => T x y || ((decide (x < l) || (decide (x = l) && decide (y < m))) && fa x && fb y)
end Go.Proofs.Ytecmfdkhcffpmaa
/- Contracts of the program's reports: visits that clash. -/
namespace Go.Proofs.Ytecmfdkhcffpmaa
open Go.RowKit
set_option linter.unusedSimpArgs false
set_option linter.unusedVariables false
set_option maxHeartbeats 8000000
open Mc

theorem Try.i64 : (Try.prog.info? 206).map (·.size) = some 64 := by kernel_rfl
theorem Row.ei {w : World} {g : Nat} {v : Vi} (h : Row w g (viA v) 208) : ∀ i, i < 64 → w.cell? ⟨g, 64 + i, none⟩ = some (.bool (v.ei i)) := fun i hi => h.cell _ (viA_ei v i hi)
end Go.Proofs.Ytecmfdkhcffpmaa
/- Contracts of the program's reports: kinds; what is known of an item. -/
namespace Go.Proofs.Ytecmfdkhcffpmaa
open Go.RowKit
set_option linter.unusedSimpArgs false
set_option linter.unusedVariables false
set_option maxHeartbeats 8000000
open Mc

set_option maxRecDepth 100000 in
theorem kindAt_any (hd : Bool) (s : ByteArray) (la : Option Addr) (ln lc p h : Nat) (off : Bool) (w : World) (hs : s.size ≤ 10000) (hp : p ≤ 20000) (hh : h < 64) (hok : PairOK s.data.toList) :
    Calls Try.prog 99 #[.agg #[.bool hd, .string s, .slice la ln lc], .agg (stA p h off)] w fun e w' => e = .returned (.int .i64 (kindP (faultP hd s.data.toList p h off))) ∧ Below w.heap.size w w' := by
  have AF : Hid (∀ W, Calls Try.prog 126 #[.agg #[.bool hd, .string s, .slice la ln lc], .agg (stA p h off)] W fun e w' => e = .returned (.int .u8 (faultP hd s.data.toList p h off)) ∧ Below W.heap.size W w') := hide (fun W => fault_any hd s la ln lc p h off W hs hp hh hok)
  have hv := faultP_vals hd s.data.toList p h off
  have HR := hide (Row.two w #[.bool hd, .string s, .slice la ln lc] (stA p h off) 111 114)
  have HB := hide (below_two w (.cells #[.bool hd, .string s, .slice la ln lc] 111) (.cells (stA p h off) 114))
  clear hok
  generalize faultP hd s.data.toList p h off = F at *
  rcases hv with rfl | rfl | rfl | rfl | rfl | rfl
  all_goals (
    go_enter Try.func99, Try.ntmps99
    go_wp2_with (first | (refine wpList_load_row rfl 114 _ rfl _ rfl 114 (stA p h off) (0, 0) _ ?_ Try.underlying114 rfl (Try.iStA _ _ _) ?_; (exact HR.out.2.raw)) | (go_at_call 126; refine (AF.out _).mono ?_; rintro e w1 ⟨rfl, hb1⟩))
    go_ret
    exact ⟨rfl, below_go HB.out hb1⟩)
theorem Try.iKnown : (Try.prog.info? 150).map (·.size) = some 5 := by kernel_rfl
set_option maxRecDepth 100000 in
theorem knownOf_any (hd : Bool) (s : ByteArray) (w : World) (hs : s.size ≤ 300) (hg : GB s.data.toList) :
    Calls Try.prog 98 #[.agg #[.bool hd, .string s]] w fun e w' => ∃ v L g, e = .returned (.agg #[.bool hd, .bool hd, .string s, .slice (some ⟨g, 0, none⟩) s.size s.size, v]) ∧ w'.ownsRow w.heap.size 153 10 v L.length (rcsV L) ∧ RFin hd s.data.toList L ∧ Below w.heap.size w w' := by
  have AO := hide (fun W => of_any hd s W (by omega))
  have AS := hide (fun W g hL => statesOf_any hd s g W hs hg hL)
  clear hg
  have HR := hide (Row.two w #[.bool hd, .string s] #[.bool false, .bool false, .string ⟨#[]⟩, .slice none 0 0, .slice none 0 0] 31 150)
  have HB := hide (below_two w (.cells #[.bool hd, .string s] 31) (.cells #[.bool false, .bool false, .string ⟨#[]⟩, .slice none 0 0, .slice none 0 0] 150))
  go_enter Try.func98, Try.ntmps98
  go_wp2_with (first | (refine wpList_store_row rfl 111 _ _ rfl w1.heap.size #[.bool hd, .string s, .slice (some ⟨g, 0, none⟩) s.size s.size] rfl rfl 111 #[.bool false, .string ⟨#[]⟩, .slice none 0 0] ?_ Try.iCode rfl (by simp [Value.oneCell']) ?_; (exact (Row.new w1 #[.bool false, .string ⟨#[]⟩, .slice none 0 0] 111).raw); rw [World.setRow_alloc_new]; have HC2 := hide (Row.new w1 #[.bool hd, .string s, .slice (some ⟨g, 0, none⟩) s.size s.size] 111); have HI2 := hide (HI1.out.alloc (.cells #[.bool hd, .string s, .slice (some ⟨g, 0, none⟩) s.size s.size] 111)); have HK2 := hide (HK1.out.alloc (.cells #[.bool hd, .string s, .slice (some ⟨g, 0, none⟩) s.size s.size] 111)); have HB2 := hide (below_new HB1.out (.cells #[.bool hd, .string s, .slice (some ⟨g, 0, none⟩) s.size s.size] 111)); have HL2 := hide (HL1.out.alloc (.cells #[.bool hd, .string s, .slice (some ⟨g, 0, none⟩) s.size s.size] 111)); generalize w1.alloc (.cells #[.bool hd, .string s, .slice (some ⟨g, 0, none⟩) s.size s.size] 111) = w2 at *; skip) | (go_at_call 112; refine (AO.out _).mono ?_; rintro e w1 ⟨g, rfl, hg, hblk, hb1⟩; have HI1 := hide (HR.out.1.below hb1); have HK1 := hide (HR.out.2.below hb1); have HB1 := hide (below_go HB.out hb1); have HL1 := hide hblk; have hz1 : w.heap.size + 1 < w1.heap.size := HK1.out.lt; clear hblk hb1))
  have yi : w2.cell? ⟨w.heap.size, 0, none⟩ = some (.bool hd) := HI2.out.cell 0 rfl
  have yc0 : w2.cell? ⟨w1.heap.size, 0, none⟩ = some (.bool hd) := HC2.out.cell 0 rfl
  have yc1 : w2.cell? ⟨w1.heap.size, 1, none⟩ = some (.string s) := HC2.out.cell 1 rfl
  have yc2 : w2.cell? ⟨w1.heap.size, 2, none⟩ = some (.slice (some ⟨g, 0, none⟩) s.size s.size) := HC2.out.cell 2 rfl
  have hne1 : w.heap.size ≠ w.heap.size + 1 := by omega
  have hne2 : w1.heap.size ≠ w.heap.size + 1 := by omega
  have KEEP : Hid (∀ W' w3 va, W' = (((((w3.setCell ⟨w.heap.size + 1, 0, none⟩ (.bool hd)).setCell ⟨w.heap.size + 1, 1, none⟩ (.bool hd)).setCell ⟨w.heap.size + 1, 2, none⟩ (.string s)).setCell ⟨w.heap.size + 1, 3, none⟩ (.slice (some ⟨g, 0, none⟩) s.size s.size)).setCell ⟨w.heap.size + 1, 4, none⟩ va) → Row w3 w.heap.size #[.bool hd, .string s] 31 → Row w3 w1.heap.size #[.bool hd, .string s, .slice (some ⟨g, 0, none⟩) s.size s.size] 111 → W'.cell? ⟨w.heap.size, 0, none⟩ = some (.bool hd) ∧ W'.cell? ⟨w1.heap.size, 0, none⟩ = some (.bool hd) ∧ W'.cell? ⟨w1.heap.size, 1, none⟩ = some (.string s) ∧ W'.cell? ⟨w1.heap.size, 2, none⟩ = some (.slice (some ⟨g, 0, none⟩) s.size s.size)) := by
    apply hide
    rintro _ w3 va rfl h1 h2
    exact ⟨by rw [cellO hne1, cellO hne1, cellO hne1, cellO hne1, cellO hne1]; exact h1.cell 0 rfl, by rw [cellO hne2, cellO hne2, cellO hne2, cellO hne2, cellO hne2]; exact h2.cell 0 rfl, by rw [cellO hne2, cellO hne2, cellO hne2, cellO hne2, cellO hne2]; exact h2.cell 1 rfl, by rw [cellO hne2, cellO hne2, cellO hne2, cellO hne2, cellO hne2]; exact h2.cell 2 rfl⟩
  go_region_held3 (fun W' => W'.cell? ⟨w.heap.size, 0, none⟩ = some (.bool hd) ∧ W'.cell? ⟨w1.heap.size, 0, none⟩ = some (.bool hd) ∧ W'.cell? ⟨w1.heap.size, 1, none⟩ = some (.string s) ∧ W'.cell? ⟨w1.heap.size, 2, none⟩ = some (.slice (some ⟨g, 0, none⟩) s.size s.size)) (first | exact KEEP.out _ w3 _ (by with_reducible rfl) HI3.out HC3.out | go_keep) (first | (go_at_call 125; refine (AS.out _ g (HL2.out.below ((Below.refl _ _).drew))).mono ?_; rintro e w3 ⟨v, L, rfl, hown, hfin, hb3⟩; obtain ⟨ao, cc, hv⟩ := own_v hown; subst hv; have hb3' := below_go ((Below.refl w2.heap.size w2).drew) hb3; have HI3 := hide (HI2.out.below hb3'); have HC3 := hide (HC2.out.below hb3'); have HK3 := hide (HK2.out.below hb3'); have HO3 := hide hown; have HF3 := hide hfin; have xi : w3.cell? ⟨w.heap.size, 0, none⟩ = some (.bool hd) := HI3.out.cell 0 rfl; have xc0 : w3.cell? ⟨w1.heap.size, 0, none⟩ = some (.bool hd) := HC3.out.cell 0 rfl; have xc1 : w3.cell? ⟨w1.heap.size, 1, none⟩ = some (.string s) := HC3.out.cell 1 rfl; have xc2 : w3.cell? ⟨w1.heap.size, 2, none⟩ = some (.slice (some ⟨g, 0, none⟩) s.size s.size) := HC3.out.cell 2 rfl; have k0 : w3.cell? ⟨w.heap.size + 1, 0, none⟩ = some (.bool false) := HK3.out.cell 0 rfl; have f0 := HK3.out.frozen 0; have k1 : w3.cell? ⟨w.heap.size + 1, 1, none⟩ = some (.bool false) := HK3.out.cell 1 rfl; have f1 := HK3.out.frozen 1; have k2 : w3.cell? ⟨w.heap.size + 1, 2, none⟩ = some (.string ⟨#[]⟩) := HK3.out.cell 2 rfl; have f2 := HK3.out.frozen 2; have k3 : w3.cell? ⟨w.heap.size + 1, 3, none⟩ = some (.slice none 0 0) := HK3.out.cell 3 rfl; have f3 := HK3.out.frozen 3; have k4 : w3.cell? ⟨w.heap.size + 1, 4, none⟩ = some (.slice none 0 0) := HK3.out.cell 4 rfl; have f4 := HK3.out.frozen 4; clear hown hfin hb3))
  all_goals (
    have HK4 : Hid (Row (((((w3.setCell ⟨w.heap.size + 1, 0, none⟩ (.bool hd)).setCell ⟨w.heap.size + 1, 1, none⟩ (.bool hd)).setCell ⟨w.heap.size + 1, 2, none⟩ (.string s)).setCell ⟨w.heap.size + 1, 3, none⟩ (.slice (some ⟨g, 0, none⟩) s.size s.size)).setCell ⟨w.heap.size + 1, 4, none⟩ (.slice ao L.length cc)) (w.heap.size + 1) #[.bool hd, .bool hd, .string s, .slice (some ⟨g, 0, none⟩) s.size s.size, .slice ao L.length cc] 150) := by
      apply hide
      have := (((((HK3.out.set 0 (.bool hd)).set 1 (.bool hd)).set 2 (.string s)).set 3 (.slice (some ⟨g, 0, none⟩) s.size s.size)).set 4 (.slice ao L.length cc))
      simpa using this
    have hbw : Below w.heap.size w w3 := HB2.out.trans (hb3'.mono HB2.out.size)
    have HB4 := hide (((((hbw.setCell (p := ⟨w.heap.size + 1, 0, none⟩) (show w.heap.size ≤ w.heap.size + 1 by omega) (.bool hd)).setCell (p := ⟨w.heap.size + 1, 1, none⟩) (show w.heap.size ≤ w.heap.size + 1 by omega) (.bool hd)).setCell (p := ⟨w.heap.size + 1, 2, none⟩) (show w.heap.size ≤ w.heap.size + 1 by omega) (.string s)).setCell (p := ⟨w.heap.size + 1, 3, none⟩) (show w.heap.size ≤ w.heap.size + 1 by omega) (.slice (some ⟨g, 0, none⟩) s.size s.size)).setCell (p := ⟨w.heap.size + 1, 4, none⟩) (show w.heap.size ≤ w.heap.size + 1 by omega) (.slice ao L.length cc))
    have hsz : w.heap.size + 1 < w2.heap.size := HK2.out.lt
    have HO4 : Hid ((((((w3.setCell ⟨w.heap.size + 1, 0, none⟩ (.bool hd)).setCell ⟨w.heap.size + 1, 1, none⟩ (.bool hd)).setCell ⟨w.heap.size + 1, 2, none⟩ (.string s)).setCell ⟨w.heap.size + 1, 3, none⟩ (.slice (some ⟨g, 0, none⟩) s.size s.size)).setCell ⟨w.heap.size + 1, 4, none⟩ (.slice ao L.length cc)).ownsRow w.heap.size 153 10 (.slice ao L.length cc) L.length (rcsV L)) := by
      apply hide
      refine own_mono (own_same HO3.out (fun j hj hl => ?_)) (show w.heap.size ≤ w2.heap.size + 1 by omega)
      rw [heap_setCell_other _ _ _ _ (show j ≠ w.heap.size + 1 by simp at hj; omega), heap_setCell_other _ _ _ _ (show j ≠ w.heap.size + 1 by simp at hj; omega), heap_setCell_other _ _ _ _ (show j ≠ w.heap.size + 1 by simp at hj; omega), heap_setCell_other _ _ _ _ (show j ≠ w.heap.size + 1 by simp at hj; omega), heap_setCell_other _ _ _ _ (show j ≠ w.heap.size + 1 by simp at hj; omega)]
    clear KEEP
    generalize (((((w3.setCell ⟨w.heap.size + 1, 0, none⟩ (.bool hd)).setCell ⟨w.heap.size + 1, 1, none⟩ (.bool hd)).setCell ⟨w.heap.size + 1, 2, none⟩ (.string s)).setCell ⟨w.heap.size + 1, 3, none⟩ (.slice (some ⟨g, 0, none⟩) s.size s.size)).setCell ⟨w.heap.size + 1, 4, none⟩ (.slice ao L.length cc)) = w4 at *
    go_wp2
    exact bodyPost_ret (v := .agg #[.bool hd, .bool hd, .string s, .slice (some ⟨g, 0, none⟩) s.size s.size, .slice ao L.length cc]) (results_cell_row Try.results98 _ _ (w.heap.size + 1) 150 #[.bool hd, .bool hd, .string s, .slice (some ⟨g, 0, none⟩) s.size s.size, .slice ao L.length cc] (0, 0) _ rfl HK4.out.raw Try.underlying150 rfl Try.iKnown) rfl ⟨_, L, g, rfl, HO4.out, HF3.out, HB4.out⟩)
end Go.Proofs.Ytecmfdkhcffpmaa
