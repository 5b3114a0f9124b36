/- KpA, RefA, RefF, RefI. -/
import Derived.Test.YtecmfdkhcffpmabB03
import Derived.Test.YtecmfdkhcffpmabRows
import Derived.WalkKit
import Derived.WalkSpells
import Derived.WalkLawsBesides
import Derived.Test.YtecmfdkhcffpmabB01
import Derived.Deep.WholeRow
import Derived.Laws.CopyOwn
import Derived.BigRegion
/- Plain: sources that are woven out of raw numbers are sources. -/
namespace Go.Proofs.Ytecmfdkhcffpmab
open Go.RowKit
set_option linter.unusedSimpArgs false
set_option linter.unusedVariables false
namespace Wd
/-- The form's reader along a text. -/
def runS : St → List UInt8 → Option St
  | st, [] => some st
  | st, c :: r => match stepP st (bt c) with
    | none => none
    | some st' => runS st' r
theorem runS_app (st : St) (a b : List UInt8) : runS st (a ++ b) = (runS st a).bind (fun s => runS s b) := by
  induction a generalizing st with
  | nil => rfl
  | cons c r ih =>
    simp only [List.cons_append, runS]
    cases stepP st (bt c) with
    | none => rfl
    | some s => exact ih s
theorem faultFrom_runS (l : List UInt8) (i : Nat) (st st' : St) (h : runS st l = some st') : faultFrom l i st = if st'.want ≠ 0 ∨ st'.items = 0 then some (i + l.length) else none := by
  induction l generalizing i st with
  | nil => simp only [runS, Option.some.injEq] at h; subst h; simp [faultFrom]
  | cons c r ih =>
    simp only [runS] at h
    cases hs : stepP st (bt c) with
    | none => rw [hs] at h; cases h
    | some s =>
      rw [hs] at h
      simp only [faultFrom, hs]
      rw [ih (i + 1) s h]
      simp only [List.length_cons, show i + 1 + r.length = i + (r.length + 1) from by omega]
/-- Bytes of a body without names. -/
def okB (b : List UInt8) : Prop := ∀ c ∈ b, up (bt c) = false ∧ bt c ≠ 123 ∧ bt c ≠ 125
theorem okB.app {a b : List UInt8} (ha : okB a) (hb : okB b) : okB (a ++ b) := by
  intro c hc
  rcases List.mem_append.1 hc with h | h
  · exact ha c h
  · exact hb c h
/-- A body that stands by itself. -/
structure Wv (b : List UInt8) : Prop where
  run : ∀ n, runS ⟨2, [], n⟩ b = some ⟨2, [], n⟩
  ok : okB b
/-- An item of a source: a thread or a handler. -/
def WvI (x : UInt8 × List UInt8) : Prop := (x.1 = 116 ∨ x.1 = 104) ∧ Wv x.2
theorem WvI.raw {x : UInt8 × List UInt8} (h : WvI x) : okRaw x := by
  refine ⟨?_, fun c hc => ⟨(h.2.ok c hc).2.1, (h.2.ok c hc).2.2⟩⟩
  rcases h.1 with e | e
  · exact Or.inl (by rw [e]; rfl)
  · exact Or.inr (Or.inl (by rw [e]; rfl))
theorem WvI.low {x : UInt8 × List UInt8} (h : WvI x) : up (bt x.1) = false := by
  rcases h.1 with e | e <;> rw [e] <;> decide
def itOf (x : UInt8 × List UInt8) : It := ⟨bt x.1 == 104, x.2⟩
theorem runS_flat (rs : List (UInt8 × List UInt8)) (n : Nat) (h : ∀ x ∈ rs, WvI x) (hn : n + rs.length ≤ 8) : runS ⟨0, [], n⟩ (flat rs) = some ⟨0, [], n + rs.length⟩ := by
  induction rs generalizing n with
  | nil => rfl
  | cons x r ih =>
    have hx := h x (by simp)
    have h1 : stepP ⟨0, [], n⟩ (bt x.1) = some ⟨1, [], n + 1⟩ := by
      have hl : n < 8 := by simp at hn; omega
      simp only [stepP, if_true]
      rw [if_pos ⟨hl, by rcases hx.1 with e | e <;> rw [e] <;> decide⟩]
    have h2 : stepP ⟨1, [], n + 1⟩ (bt 123) = some ⟨2, [], n + 1⟩ := by simp [stepP, bt]
    have h3 : stepP ⟨2, [], n + 1⟩ (bt 125) = some ⟨0, [], n + 1⟩ := by simp [stepP, bodyP, bt]
    have hr := ih (n + 1) (fun y hy => h y (by simp [hy])) (by simp at hn; omega)
    simp only [flat, runS, h1, h2]
    rw [runS_app, hx.2.run (n + 1)]
    simp only [Option.bind_some, runS, h3]
    rw [hr]; simp only [List.length_cons, show n + 1 + r.length = n + (r.length + 1) from by omega]
theorem fault_flat (rs : List (UInt8 × List UInt8)) (h : ∀ x ∈ rs, WvI x) (hn : rs.length ≤ 8) (h0 : 0 < rs.length) : fault (flat rs) = none := by
  have := runS_flat rs 0 h (by omega)
  unfold fault
  rw [faultFrom_runS _ _ _ _ this]
  rw [if_neg]
  simp only; omega
theorem unknown_okB (F : Nat → Fn) (b : List UInt8) (h : okB b) : unknown F b = none := by
  unfold unknown
  apply first_no
  intro j hj
  have e : at_ b j = bt b[j] := by simp [at_, bt, hj]
  unfold unkP
  rw [e, (h b[j] (List.getElem_mem hj)).1]; rfl
theorem names_lay (F : Nat → Fn) (rs : List (UInt8 × List UInt8)) (o : Nat) (seen : Nat → Bool) (h : ∀ x ∈ rs, WvI x) : namesFrom F (lay o rs) seen = none := by
  induction rs generalizing o seen with
  | nil => rfl
  | cons x r ih =>
    have hx := h x (by simp)
    simp only [lay, namesFrom, hx.low, Bool.false_eq_true, false_and, if_false]
    rw [unknown_okB F x.2 hx.2.ok]
    exact ih _ _ (fun y hy => h y (by simp [hy]))
theorem unf_okB (F : Nat → Fn) (b acc : List UInt8) (h : okB b) (hl : acc.length + b.length ≤ 300) : unf F b acc = some (acc ++ b) := by
  induction b generalizing acc with
  | nil => simp [unf]
  | cons c r ih =>
    simp only [List.length_cons] at hl
    rw [unf, if_neg (by rw [(h c (by simp)).1]; decide), if_neg (by simp only [List.length_append, List.length_singleton]; omega), ih _ (fun d hd => h d (by simp [hd])) (by simp only [List.length_append, List.length_singleton]; omega)]
    simp
theorem items_lay (F : Nat → Fn) (rs : List (UInt8 × List UInt8)) (o : Nat) (acc : List It) (h : ∀ x ∈ rs, WvI x ∧ x.2.length ≤ 300) : itemsFrom F (lay o rs) acc = .ok (acc ++ rs.map itOf) := by
  induction rs generalizing o acc with
  | nil => simp [lay, itemsFrom]
  | cons x r ih =>
    have hx := h x (by simp)
    simp only [lay, itemsFrom, hx.1.low, Bool.false_eq_true, if_false]
    rw [unfold, unf_okB F x.2 [] hx.1.2.ok (by simpa using hx.2)]
    simp only [List.nil_append]
    rw [ih _ _ (fun y hy => h y (by simp [hy]))]
    simp [itOf]
theorem fns_lay (rs : List (UInt8 × List UInt8)) (o : Nat) (h : ∀ x ∈ rs, WvI x) : (lay o rs).foldl addF (fun _ => fn0) = fun _ => fn0 := by
  induction rs generalizing o with
  | nil => rfl
  | cons x r ih =>
    simp only [lay, List.foldl_cons]
    rw [addF, if_neg (by simp only [(h x (by simp)).low]; decide)]
    exact ih _ (fun y hy => h y (by simp [hy]))
theorem ready_fn0 : ∀ n, readyTo (fun _ => fn0) n = fun _ => fn0
  | 0 => rfl
  | n + 1 => by rw [readyTo, ready_fn0 n, readyStep, if_neg]; simp [fn0]
theorem rounds_fn0 : ∀ n, roundsTo (fun _ => fn0) n = fun _ => fn0
  | 0 => rfl
  | n + 1 => by rw [roundsTo, rounds_fn0 n, ready_fn0]
theorem flat_mem_len {rs : List (UInt8 × List UInt8)} {x : UInt8 × List UInt8} (h : x ∈ rs) : x.2.length + 3 ≤ (flat rs).length := by
  induction rs with
  | nil => cases h
  | cons y r ih =>
    rw [flat_len]
    rcases List.mem_cons.1 h with rfl | h
    · omega
    · have := ih h; omega
/-- What is woven is a source. -/
theorem readP_woven (rs : List (UInt8 × List UInt8)) (h : ∀ x ∈ rs, WvI x) (hn : rs.length ≤ 8) (h0 : 0 < rs.length) (hl : (flat rs).length ≤ 240) : readP (flat rs) = .ok (rs.map itOf) := by
  have hs := split_of rs (fun x hx => (h x hx).raw)
  refine readP_ok (by omega) (fault_flat rs h hn h0) ?_ ?_ ?_
  · rw [hs]; exact names_lay _ rs 0 _ h
  · rw [hs]; simp only
    rw [fns_lay rs 0 h, rounds_fn0]
    unfold left
    rw [first_no]; · rfl
    intro j hj; rfl
  · rw [hs]; simp only
    unfold items
    rw [items_lay _ rs 0 [] (fun x hx => ⟨h x hx, by have := flat_mem_len hx; omega⟩)]
    simp
/-- Which of n things a raw number speaks of. -/
def pickP (c n : Int) : Int := (if c < 0 then -(c + 1) else c) % n
theorem pickP_bd (c n : Int) (h : 0 < n) : 0 ≤ pickP c n ∧ pickP c n < n := ⟨Int.emod_nonneg _ (by omega), Int.emod_lt_of_pos _ h⟩
/-- A byte of a number. -/
def b8 (n : Nat) : UInt8 := UInt8.ofNat n
theorem bt_b8 {n : Nat} (h : n < 256) : bt (b8 n) = n := by
  unfold bt b8
  rw [UInt8.toNat_ofNat', Nat.mod_eq_of_lt (by omega)]
def plainT (k : Nat) : List UInt8 :=
  if k < 6 then [43, b8 (97 + k)] else if k < 12 then [45, b8 (97 + (k - 6))]
  else if k = 12 then [60] else if k = 13 then [62] else if k = 14 then [122]
  else if k < 19 then [114, b8 (48 + (k - 15))] else [119, b8 (48 + (k - 19))]
/-- A token, what is open behind it, whether it may stand there. -/
def tokT (k : Nat) (o : List UInt8) : List UInt8 × List UInt8 × Bool :=
  if k < 23 then (plainT k, o, true)
  else if k < 25 then ([40], o ++ [40], true)
  else if k < 27 then (match shut o 40 with | some q => ([124], q ++ [124], true) | none => ([], o, false))
  else if k = 27 then (match shut o 124 with | some q => ([41], q, true) | none => ([], o, false))
  else if k < 30 then ([91], o ++ [91], true)
  else (match shut o 91 with | some q => ([93], q, true) | none => ([], o, false))
/-- What closes what is open, the innermost first. -/
def clos : List UInt8 → List UInt8
  | [] => []
  | c :: r => (if c = 40 then [124, 41] else if c = 124 then [41] else [93]) ++ clos r
theorem clos_len (o : List UInt8) : (clos o).length ≤ 2 * o.length := by
  induction o with
  | nil => simp [clos]
  | cons c r ih =>
    simp only [clos, List.length_append, List.length_cons]
    split
    · simp only [List.length_cons, List.length_nil]; omega
    · split <;> simp only [List.length_cons, List.length_nil] <;> omega
def weaveFrom (most : Nat) : List Int → List UInt8 → List UInt8 → List UInt8
  | [], out, o => out ++ clos o.reverse
  | x :: r, out, o =>
    if (tokT (pickP x 32).toNat o).2.2 = true ∧ out.length + (tokT (pickP x 32).toNat o).1.length + 2 * (tokT (pickP x 32).toNat o).2.1.length ≤ most then
      weaveFrom most r (out ++ (tokT (pickP x 32).toNat o).1) (tokT (pickP x 32).toNat o).2.1
    else weaveFrom most r out o
def weaveP (raw : List Int) (most : Nat) : List UInt8 := weaveFrom most raw [] []
/-- What is open: brackets alone. -/
def Ops (o : List UInt8) : Prop := ∀ c ∈ o, c = 40 ∨ c = 124 ∨ c = 91
theorem run2 {o : List UInt8} {n : Nat} (c d : UInt8) (h1 : bt c = 43 ∨ bt c = 45) (h2 : lk (bt d) = true) : runS ⟨2, o, n⟩ [c, d] = some ⟨2, o, n⟩ := by
  have e1 : stepP ⟨2, o, n⟩ (bt c) = some ⟨3, o, n⟩ := by simp [stepP, bodyP, h1]
  have e2 : stepP ⟨3, o, n⟩ (bt d) = some ⟨2, o, n⟩ := by simp [stepP, h2]
  simp only [runS, e1, e2]
theorem run2c {o : List UInt8} {n : Nat} (c d : UInt8) (h1 : bt c = 114 ∨ bt c = 119) (h2 : cl (bt d) = true) : runS ⟨2, o, n⟩ [c, d] = some ⟨2, o, n⟩ := by
  have e1 : stepP ⟨2, o, n⟩ (bt c) = some ⟨4, o, n⟩ := by
    have : ¬ (bt c = 43 ∨ bt c = 45) := by omega
    simp [stepP, bodyP, h1, this]
  have e2 : stepP ⟨4, o, n⟩ (bt d) = some ⟨2, o, n⟩ := by simp [stepP, h2]
  simp only [runS, e1, e2]
theorem run1 {o : List UInt8} {n : Nat} (c : UInt8) (h1 : bt c = 60 ∨ bt c = 62 ∨ bt c = 122) : runS ⟨2, o, n⟩ [c] = some ⟨2, o, n⟩ := by
  have a : ¬ (bt c = 43 ∨ bt c = 45) := by omega
  have b : ¬ (bt c = 114 ∨ bt c = 119) := by omega
  simp [runS, stepP, bodyP, h1, a, b]
theorem shut_of {o q : List UInt8} (c : UInt8) (h : o = q ++ [c]) : shut o (bt c) = some q := by
  subst h
  unfold shut
  rw [if_pos]
  · simp
  · refine ⟨by simp, ?_⟩
    simp [at_, bt]
theorem lk_b8 {k : Nat} (h : k < 6) : lk (bt (b8 (97 + k))) = true := by rw [bt_b8 (by omega)]; simp [lk]; omega
theorem cl_b8 {k : Nat} (h : k < 4) : cl (bt (b8 (48 + k))) = true := by rw [bt_b8 (by omega)]; simp [cl]; omega
theorem lk_ok {d : UInt8} (h : lk (bt d) = true) : up (bt d) = false ∧ bt d ≠ 123 ∧ bt d ≠ 125 := by
  simp [lk] at h
  refine ⟨?_, by omega, by omega⟩
  simp [up]; omega
theorem cl_ok {d : UInt8} (h : cl (bt d) = true) : up (bt d) = false ∧ bt d ≠ 123 ∧ bt d ≠ 125 := by
  simp [cl] at h
  refine ⟨?_, by omega, by omega⟩
  simp [up]; omega
theorem ok2 {c d : UInt8} (h1 : up (bt c) = false ∧ bt c ≠ 123 ∧ bt c ≠ 125) (h2 : up (bt d) = false ∧ bt d ≠ 123 ∧ bt d ≠ 125) : okB [c, d] := by
  intro x hx
  simp only [List.mem_cons, List.not_mem_nil, or_false] at hx
  rcases hx with rfl | rfl
  · exact h1
  · exact h2
theorem ok1 {c : UInt8} (h1 : up (bt c) = false ∧ bt c ≠ 123 ∧ bt c ≠ 125) : okB [c] := by
  intro x hx
  simp only [List.mem_cons, List.not_mem_nil, or_false] at hx
  rw [hx]; exact h1
theorem plainT_run (k : Nat) (h : k < 23) (o : List UInt8) (n : Nat) : runS ⟨2, o, n⟩ (plainT k) = some ⟨2, o, n⟩ ∧ okB (plainT k) := by
  unfold plainT
  split
  · have := lk_b8 (k := k) (by omega)
    exact ⟨run2 _ _ (Or.inl (by rfl)) this, ok2 (by decide) (lk_ok this)⟩
  split
  · have := lk_b8 (k := k - 6) (by omega)
    exact ⟨run2 _ _ (Or.inr (by rfl)) this, ok2 (by decide) (lk_ok this)⟩
  split
  · exact ⟨run1 _ (by decide), ok1 (by decide)⟩
  split
  · exact ⟨run1 _ (by decide), ok1 (by decide)⟩
  split
  · exact ⟨run1 _ (by decide), ok1 (by decide)⟩
  split
  · have := cl_b8 (k := k - 15) (by omega)
    exact ⟨run2c _ _ (by decide) this, ok2 (by decide) (cl_ok this)⟩
  · have := cl_b8 (k := k - 19) (by omega)
    exact ⟨run2c _ _ (by decide) this, ok2 (by decide) (cl_ok this)⟩
theorem runOpen {o : List UInt8} {n : Nat} {c : UInt8} (h : c = 40 ∨ c = 91) : runS ⟨2, o, n⟩ [c] = some ⟨2, o ++ [c], n⟩ := by
  rcases h with rfl | rfl <;> simp [runS, stepP, bodyP, bt]
theorem runBar {o : List UInt8} {n : Nat} : runS ⟨2, o ++ [40], n⟩ [124] = some ⟨2, o ++ [124], n⟩ := by
  have := shut_of (o := o ++ [40]) 40 rfl
  simp [runS, stepP, bodyP, bt] at this ⊢
  simp [this]
theorem runShutP {o : List UInt8} {n : Nat} : runS ⟨2, o ++ [124], n⟩ [41] = some ⟨2, o, n⟩ := by
  have := shut_of (o := o ++ [124]) 124 rfl
  simp [runS, stepP, bodyP, bt] at this ⊢
  simp [this]
theorem runShutB {o : List UInt8} {n : Nat} : runS ⟨2, o ++ [91], n⟩ [93] = some ⟨2, o, n⟩ := by
  have := shut_of (o := o ++ [91]) 91 rfl
  simp [runS, stepP, bodyP, bt] at this ⊢
  simp [this]
theorem tokT_run (k : Nat) (o : List UInt8) (n : Nat) (ho : Ops o) (h : (tokT k o).2.2 = true) : runS ⟨2, o, n⟩ (tokT k o).1 = some ⟨2, (tokT k o).2.1, n⟩ ∧ okB (tokT k o).1 ∧ Ops (tokT k o).2.1 := by
  unfold tokT at h ⊢
  by_cases c1 : k < 23
  · simp only [c1, if_true]
    exact ⟨(plainT_run k c1 o n).1, (plainT_run k c1 o n).2, ho⟩
  simp only [c1, if_false] at h ⊢
  by_cases c2 : k < 25
  · simp only [c2, if_true]
    refine ⟨runOpen (Or.inl rfl), ok1 (by decide), fun c hc => ?_⟩
    rcases List.mem_append.1 hc with hc | hc
    · exact ho c hc
    · simp at hc; exact Or.inl hc
  simp only [c2, if_false] at h ⊢
  by_cases c3 : k < 27
  · simp only [c3, if_true] at h ⊢
    cases hq : shut o 40 with
    | none => simp only [hq] at h; cases h
    | some q =>
      have e := shut_some (c := 40) hq
      subst e
      refine ⟨runBar, ok1 (by decide), fun c hc => ?_⟩
      rcases List.mem_append.1 hc with hc | hc
      · exact ho c (by simp [hc])
      · simp at hc; exact Or.inr (Or.inl hc)
  simp only [c3, if_false] at h ⊢
  by_cases c4 : k = 27
  · simp only [c4, if_true] at h ⊢
    cases hq : shut o 124 with
    | none => simp only [hq] at h; cases h
    | some q =>
      have e := shut_some (c := 124) hq
      subst e
      exact ⟨runShutP, ok1 (by decide), fun c hc => ho c (by simp [hc])⟩
  simp only [c4, if_false] at h ⊢
  by_cases c5 : k < 30
  · simp only [c5, if_true]
    refine ⟨runOpen (Or.inr rfl), ok1 (by decide), fun c hc => ?_⟩
    rcases List.mem_append.1 hc with hc | hc
    · exact ho c hc
    · simp at hc; exact Or.inr (Or.inr hc)
  simp only [c5, if_false] at h ⊢
  cases hq : shut o 91 with
  | none => simp only [hq] at h; cases h
  | some q =>
    have e := shut_some (c := 91) hq
    subst e
    exact ⟨runShutB, ok1 (by decide), fun c hc => ho c (by simp [hc])⟩
theorem clos_run (o : List UInt8) (n : Nat) (ho : Ops o) : runS ⟨2, o.reverse, n⟩ (clos o) = some ⟨2, [], n⟩ ∧ okB (clos o) := by
  induction o with
  | nil => exact ⟨rfl, fun c hc => by cases hc⟩
  | cons c r ih =>
    obtain ⟨i1, i2⟩ := ih (fun d hd => ho d (by simp [hd]))
    simp only [clos, List.reverse_cons]
    rw [runS_app]
    rcases ho c (by simp) with rfl | rfl | rfl
    · rw [if_pos rfl]
      refine ⟨?_, okB.app (ok2 (by decide) (by decide)) i2⟩
      have e : runS ⟨2, r.reverse ++ [40], n⟩ [124, 41] = some ⟨2, r.reverse, n⟩ := by
        have := runS_app ⟨2, r.reverse ++ [40], n⟩ [124] [41]
        rw [runBar] at this
        exact this.trans runShutP
      rw [e]; exact i1
    · rw [if_neg (by decide), if_pos rfl, runShutP]
      exact ⟨i1, okB.app (ok1 (by decide)) i2⟩
    · rw [if_neg (by decide), if_neg (by decide), runShutB]
      exact ⟨i1, okB.app (ok1 (by decide)) i2⟩
theorem weaveFrom_ok (most : Nat) (raw : List Int) (out o : List UInt8) (ho : Ops o) (hr : ∀ n, runS ⟨2, [], n⟩ out = some ⟨2, o, n⟩) (hk : okB out) (hl : out.length + 2 * o.length ≤ most) : Wv (weaveFrom most raw out o) ∧ (weaveFrom most raw out o).length ≤ most := by
  induction raw generalizing out o with
  | nil =>
    have hR : Ops o.reverse := fun c hc => ho c (by simpa using hc)
    refine ⟨⟨fun n => ?_, okB.app hk (clos_run o.reverse 0 hR).2⟩, ?_⟩
    · rw [weaveFrom, runS_app, hr n]
      have := (clos_run o.reverse n hR).1
      rw [List.reverse_reverse] at this
      exact this
    · rw [weaveFrom, List.length_append]
      have := clos_len o.reverse
      rw [List.length_reverse] at this
      omega
  | cons x r ih =>
    rw [weaveFrom]
    split
    · rename_i hc
      refine ih _ _ (tokT_run _ o 0 ho hc.1).2.2 (fun n => ?_) (okB.app hk (tokT_run _ o 0 ho hc.1).2.1) (by rw [List.length_append]; omega)
      rw [runS_app, hr n]
      exact (tokT_run _ o n ho hc.1).1
    · exact ih _ _ ho hr hk hl
theorem weaveP_ok (raw : List Int) (most : Nat) : Wv (weaveP raw most) ∧ (weaveP raw most).length ≤ most :=
  weaveFrom_ok most raw [] [] (fun c hc => by cases hc) (fun n => rfl) (fun c hc => by cases hc) (by simp)
/-- The parts of a program. -/
structure Pt where
  handler : Bool
  steps : List Int
def letterOf (h : Bool) : UInt8 := if h = true then 104 else 116
def progFrom (most : Nat) : List Pt → List (UInt8 × List UInt8) → List (UInt8 × List UInt8)
  | [], rs => rs
  | p :: r, rs => if (flat rs).length + 3 ≤ most then progFrom most r (rs ++ [(letterOf p.handler, weaveP p.steps (most - (flat rs).length - 3))]) else progFrom most r rs
def orOne (rs : List (UInt8 × List UInt8)) : List (UInt8 × List UInt8) := if flat rs = [] then [(116, [])] else rs
def progR (ps : List Pt) (n most : Nat) : List (UInt8 × List UInt8) := orOne (progFrom most (ps.take n) [])
theorem flat_app (a b : List (UInt8 × List UInt8)) : flat (a ++ b) = flat a ++ flat b := by
  induction a with
  | nil => rfl
  | cons x r ih => simp [flat, ih]
theorem progFrom_ok (most : Nat) (ps : List Pt) (rs : List (UInt8 × List UInt8)) (h : ∀ x ∈ rs, WvI x) (hl : (flat rs).length ≤ most) : (∀ x ∈ progFrom most ps rs, WvI x) ∧ (flat (progFrom most ps rs)).length ≤ most ∧ (progFrom most ps rs).length ≤ rs.length + ps.length := by
  induction ps generalizing rs with
  | nil => exact ⟨h, hl, by simp [progFrom]⟩
  | cons p r ih =>
    rw [progFrom]
    split
    · rename_i hc
      have hw := weaveP_ok p.steps (most - (flat rs).length - 3)
      obtain ⟨i1, i2, i3⟩ := ih (rs ++ [(letterOf p.handler, weaveP p.steps (most - (flat rs).length - 3))]) (fun x hx => by
        rcases List.mem_append.1 hx with hx | hx
        · exact h x hx
        · simp at hx; subst hx
          exact ⟨by unfold letterOf; split <;> simp, hw.1⟩) (by
        rw [flat_app, List.length_append]
        simp only [flat, List.length_cons, List.length_append, List.length_nil]
        omega)
      refine ⟨i1, i2, ?_⟩
      simp only [List.length_append, List.length_cons, List.length_nil] at i3 ⊢
      omega
    · obtain ⟨i1, i2, i3⟩ := ih rs h hl
      exact ⟨i1, i2, by simp only [List.length_cons]; omega⟩
theorem Wv.nil : Wv [] := ⟨fun n => rfl, fun c hc => by cases hc⟩
theorem progR_ok (ps : List Pt) (n most : Nat) (hn : 1 ≤ n) (hm : 3 ≤ most) : (∀ x ∈ progR ps n most, WvI x) ∧ (flat (progR ps n most)).length ≤ most ∧ (progR ps n most).length ≤ n ∧ 0 < (progR ps n most).length := by
  obtain ⟨i1, i2, i3⟩ := progFrom_ok most (ps.take n) [] (fun x hx => by cases hx) (by simp [flat])
  unfold progR orOne
  split
  · refine ⟨fun x hx => ?_, by simp [flat]; exact hm, by simpa using hn, by simp⟩
    simp at hx; subst hx; exact ⟨Or.inl rfl, Wv.nil⟩
  · rename_i hne
    refine ⟨i1, i2, ?_, ?_⟩
    · simp only [List.length_nil, List.length_take] at i3; omega
    · cases hp : progFrom most (ps.take n) [] with
      | nil => rw [hp] at hne; exact absurd rfl hne
      | cons x r => simp
/-- A program that is woven is a source. -/
theorem readP_prog (ps : List Pt) (n most : Nat) (hn : 1 ≤ n) (hn8 : n ≤ 8) (hm : 3 ≤ most) (hm2 : most ≤ 240) : readP (flat (progR ps n most)) = .ok ((progR ps n most).map itOf) := by
  obtain ⟨h1, h2, h3, h4⟩ := progR_ok ps n most hn hm
  exact readP_woven _ h1 (by omega) h4 (by omega)
end Wd
end Go.Proofs.Ytecmfdkhcffpmab
/- Contracts of the document's small functions. -/
namespace Go.Proofs.Ytecmfdkhcffpmab
open Go.RowKit
set_option linter.unusedSimpArgs false
set_option linter.unusedVariables false
set_option maxHeartbeats 400000

theorem isFunction_any (n : Int) (w : World) (h0 : 0 ≤ n) (h1 : n ≤ 255) :
    Calls Try.prog 80 #[.int .u8 n] w fun e w' => e = .returned (.bool (Wd.up n)) ∧ w' = w := by
  by_cases a : 65 ≤ n <;> by_cases b : n ≤ 72
  all_goals
    have hr : Wd.up n = decide (65 ≤ n ∧ n ≤ 72) := rfl
    simp only [a, b, and_self, and_true, true_and, and_false, false_and, decide_true, decide_false] at hr
    rw [hr]
    clear hr
    go_enter Try.func80, Try.ntmps80
    go_wp2
    go_ret
    exact ⟨by simp [a, b]; try omega, rfl⟩
end Go.Proofs.Ytecmfdkhcffpmab
/- Contract of the document's 'sizes': how long the functions' bodies are, unfolded. -/
namespace Go.Proofs.Ytecmfdkhcffpmab
open Go.RowKit
set_option linter.unusedSimpArgs false
set_option linter.unusedVariables false
set_option maxHeartbeats 400000

/-- A block of cells that may be written: its cells and its marks. -/
theorem row_cell {w : World} {g j : Nat} {cs : Array Value} {t : TypeId} {v : Value} (hg : w.heap[g]? = some (.cells cs t (0, 0))) (h : cs[j]? = some v) : w.cell? ⟨g, j, none⟩ = some v := by
  rw [cell_of_row w g j cs t (0, 0) hg]; exact h
theorem row_lt {w : World} {g : Nat} {o : Obj} (hg : w.heap[g]? = some o) : g < w.heap.size := (Array.getElem?_eq_some_iff.1 hg).1
theorem below_row {w w' : World} (hb : Below w.heap.size w w') {g : Nat} {o : Obj} (hg : w.heap[g]? = some o) : w'.heap[g]? = some o := by
  rw [hb.block g (row_lt hg)]; exact hg

end Go.Proofs.Ytecmfdkhcffpmab
/- Contract of the document's 'Check'. -/
namespace Go.Proofs.Ytecmfdkhcffpmab
open Go.RowKit
set_option linter.unusedSimpArgs false
set_option linter.unusedVariables false
set_option maxHeartbeats 400000

theorem own_shape {w : World} {base : Nat} {e : TypeId} {v : Value} {n : Nat} {xs : List Value} (h : w.ownsRow base e 1 v n xs) :
    ∃ ao cap, v = .slice ao n cap ∧ n ≤ cap ∧ cap ≤ maxLen ∧ xs.length = n ∧ (∀ j u, xs[j]? = some u → ∃ g, ao = some ⟨g, 0, none⟩ ∧ w.cell? ⟨g, j, none⟩ = some u ∧ base ≤ g ∧ g < w.heap.size) := by
  obtain ⟨hl, h2⟩ := h
  rcases h2 with ⟨rfl, rfl⟩ | ⟨g, cap, cur, rfl, hg, hh, hn, hm, hs, ht⟩
  · refine ⟨none, 0, rfl, by omega, by unfold maxLen; omega, by simpa using hl, ?_⟩
    intro j u hj
    have hx : xs = [] := by simpa using hl
    subst hx
    simp at hj
  · refine ⟨some ⟨g, 0, none⟩, cap, rfl, hn, hm, by simpa using hl, ?_⟩
    intro j u hj
    refine ⟨g, rfl, ?_, hg, row_lt hh⟩
    rw [cell_of_row w g j cur e (0, 0) hh]
    have hj' : j < xs.length := (List.getElem?_eq_some_iff.1 hj).1
    have hjn : j < n := by have : xs.length = n := by simpa using hl
                           omega
    rw [← ht] at hj
    simp [hjn] at hj
    exact hj

end Go.Proofs.Ytecmfdkhcffpmab
