/- Plain: careful sources: nothing is told of them, each edge leads upwards. -/
import Derived.Test.YtecmfdkhcffpmaaKpR
namespace Go.Proofs.Ytecmfdkhcffpmaa
open Go.RowKit
set_option linter.unusedSimpArgs false
set_option linter.unusedVariables false
namespace Mc
open Wd
/-- A token that is no bracket. -/
inductive Tk
  | take (l : Nat)
  | give (l : Nat)
  | rd (c : Nat)
  | wr (c : Nat)
  | dis
  | ena
  | slp
def Tk.tx : Tk → List UInt8
  | .take l => [43, b8 (97 + l)]
  | .give l => [45, b8 (97 + l)]
  | .rd c => [114, b8 (48 + c)]
  | .wr c => [119, b8 (48 + c)]
  | .dis => [60]
  | .ena => [62]
  | .slp => [122]
def tks (ts : List Tk) : List UInt8 := ts.flatMap Tk.tx
theorem tks_cons (t : Tk) (r : List Tk) : tks (t :: r) = t.tx ++ tks r := by simp [tks]
theorem tks_app (a b : List Tk) : tks (a ++ b) = tks a ++ tks b := by simp [tks]
def belowB (h l : Nat) : Bool := (List.range 6).all fun m => !h.testBit m || decide (m < l)
/-- What a careful token does to the locks and the interrupts. -/
def tstep (first : Nat) (hd : Bool) (s : Nat × Bool) : Tk → Option (Nat × Bool)
  | .take l => if l < 6 ∧ s.1.testBit l = false ∧ belowB s.1 l = true ∧ (hd = true → first ≤ l) ∧ (hd = false → s.2 = false → l < first) then some (s.1 + 2 ^ l, s.2) else none
  | .give l => if l < 6 ∧ s.1.testBit l = true then some (s.1 - 2 ^ l, s.2) else none
  | .rd c => if c < 4 ∧ s.1.testBit c = true then some s else none
  | .wr c => if c < 4 ∧ s.1.testBit c = true then some s else none
  | .dis => if hd = false then some (s.1, true) else none
  | .ena => if hd = false ∧ s.1 = 0 then some (s.1, false) else none
  | .slp => if hd = false ∧ s.1 = 0 ∧ s.2 = false then some s else none
def trun (first : Nat) (hd : Bool) : Nat × Bool → List Tk → Option (Nat × Bool)
  | s, [] => some s
  | s, t :: r => match tstep first hd s t with
    | none => none
    | some s' => trun first hd s' r
/-- What holds of locks and interrupts. -/
structure SS (first : Nat) (hd : Bool) (s : Nat × Bool) : Prop where
  lo : s.1 < 64
  op : hd = false → s.2 = false → ∀ l, s.1.testBit l = true → l < first
theorem SS.zero (first : Nat) (hd : Bool) : SS first hd (0, hd) := ⟨by show 0 < 64; decide, fun _ _ l h => by simp at h⟩
theorem SS.step {first : Nat} {hd : Bool} {s s' : Nat × Bool} (h : SS first hd s) {t : Tk} (ht : tstep first hd s t = some s') : SS first hd s' := by
  cases t with
  | take l =>
    simp only [tstep] at ht
    split at ht
    · rename_i c
      cases ht
      refine ⟨bits_add _ h.lo _ c.1 c.2.1, fun a b m hm => ?_⟩
      rcases bit_add _ h.lo _ c.1 c.2.1 m (bit_six (bits_add _ h.lo _ c.1 c.2.1) hm) hm with e | e
      · exact h.op a b m e
      · rw [e]; exact c.2.2.2.2 a b
    · cases ht
  | give l =>
    simp only [tstep] at ht
    split at ht
    · rename_i c
      cases ht
      have hl : s.1 - 2 ^ l < 64 := Nat.lt_of_le_of_lt (Nat.sub_le _ _) h.lo
      exact ⟨hl, fun a b m hm => h.op a b m (bit_sub _ h.lo _ c.1 c.2 m (bit_six hl hm) hm)⟩
    · cases ht
  | rd c =>
    simp only [tstep] at ht
    split at ht
    · cases ht; exact h
    · cases ht
  | wr c =>
    simp only [tstep] at ht
    split at ht
    · cases ht; exact h
    · cases ht
  | dis =>
    simp only [tstep] at ht
    split at ht
    · cases ht; exact ⟨h.lo, fun _ b => by cases b⟩
    · cases ht
  | ena =>
    simp only [tstep] at ht
    split at ht
    · rename_i c
      cases ht
      refine ⟨h.lo, fun _ _ l hl => ?_⟩
      rw [show ((s.1, false) : Nat × Bool).1 = s.1 from rfl, c.2] at hl
      simp at hl
    · cases ht
  | slp =>
    simp only [tstep] at ht
    split at ht
    · cases ht; exact h
    · cases ht
theorem trun_app (first : Nat) (hd : Bool) (a b : List Tk) : ∀ s, trun first hd s (a ++ b) = match trun first hd s a with | none => none | some s' => trun first hd s' b := by
  induction a with
  | nil => intro s; rfl
  | cons t r ih =>
    intro s
    simp only [List.cons_append, trun]
    cases tstep first hd s t with
    | none => rfl
    | some s' => exact ih s'
theorem SS.run {first : Nat} {hd : Bool} {ts : List Tk} : ∀ {s s' : Nat × Bool}, SS first hd s → trun first hd s ts = some s' → SS first hd s' := by
  induction ts with
  | nil => intro s s' h e; cases e; exact h
  | cons t r ih =>
    intro s s' h e
    rw [trun] at e
    cases e2 : tstep first hd s t with
    | none => rw [e2] at e; cases e
    | some z => rw [e2] at e; exact ih (h.step e2) e
/-- Nothing is wrong at a state. -/
structure Sf (first : Nat) (hd : Bool) (b : List UInt8) (s : St3) : Prop where
  no : faultP hd b s.1 s.2.1 s.2.2 = 0
  up : ∀ l m, s.2.1.testBit l = true → (tkP b s.1 s.2.1).testBit m = true → l < m
  op : hd = false → s.2.2 = false → ∀ l, s.2.1.testBit l = true → l < first
  tk : hd = true → ∀ m, (tkP b s.1 s.2.1).testBit m = true → first ≤ m
  ce : ∀ c : Nat, AtC b c s.1 → s.2.1.testBit c = true
theorem sf_plain {first : Nat} {hd : Bool} {b : List UInt8} (hok : PairOK b) {p : Nat} {s : Nat × Bool} (hs : SS first hd s) (hf : faultP hd b p s.1 s.2 = 0) (h1 : atB b p ≠ 43) (h2 : atB b p ≠ 114) (h3 : atB b p ≠ 119) : Sf first hd b (p, s.1, s.2) :=
  ⟨hf, fun l m _ hm => absurd (tk_bit hok hm).1 h1, hs.op, fun _ m hm => absurd (tk_bit hok hm).1 h1, fun c hc => by rcases hc.1 with e | e; exact absurd e h2; exact absurd e h3⟩
theorem one_at {b A B : List UInt8} {c : UInt8} (e : b = A ++ (c :: B)) : A.length < b.length ∧ atB b A.length = bt c := by
  have hl : A.length < b.length := by rw [e]; simp
  refine ⟨hl, ?_⟩
  rw [atB, if_pos hl, e]
  have := at_right A (c :: B) 0
  rw [Nat.add_zero] at this
  rw [this]; rfl
theorem two_at {b A B : List UInt8} {c d : UInt8} (e : b = A ++ (c :: d :: B)) : A.length + 1 < b.length ∧ atB b A.length = bt c ∧ at_ b (A.length + 1) = bt d := by
  refine ⟨by rw [e]; simp, (one_at e).2, ?_⟩
  rw [e, at_right' A _ _ 1 rfl]
  rfl
theorem num_l {b A B : List UInt8} {c : UInt8} {l : Nat} (hl : l < 6) (e : b = A ++ (c :: b8 (97 + l) :: B)) : num b A.length = l := by
  obtain ⟨h1, h2, h3⟩ := two_at e
  rw [num, if_pos h1, h3, bt_b8 (by omega), if_pos (by omega)]
  omega
theorem num_c {b A B : List UInt8} {c : UInt8} {l : Nat} (hl : l < 4) (e : b = A ++ (c :: b8 (48 + l) :: B)) : num b A.length = l := by
  obtain ⟨h1, h2, h3⟩ := two_at e
  rw [num, if_pos h1, h3, bt_b8 (by omega), if_neg (by omega)]
  omega
theorem stp_of {hd : Bool} {b : List UInt8} {p h : Nat} {off comma : Bool} (hf : faultP hd b p h off = 0) {z : St3} (hn : nextP b p h off comma = z) : stp hd b (p, h, off) comma = z := by
  unfold stp stepS
  simp only
  rw [if_pos hf]; exact hn
theorem hasB_n (h l : Nat) (hl : l < 6) : hasB h (l : Int) = h.testBit l := by
  unfold hasB holds
  simp; intro _; omega
theorem below_of {h l : Nat} (hb : belowB h l = true) {m : Nat} (hm : m < 6) (ht : h.testBit m = true) : m < l := by
  unfold belowB at hb
  rw [List.all_eq_true] at hb
  have := hb m (List.mem_range.2 hm)
  rw [ht] at this
  simpa using this
/-- A careful token: nothing is wrong, and the state behind it. -/
theorem tok_at {first : Nat} {hd : Bool} {b A B : List UInt8} {t : Tk} {s s' : Nat × Bool} (hok : PairOK b) (e : b = A ++ (t.tx ++ B)) (hs : SS first hd s) (h : tstep first hd s t = some s') (comma : Bool) :
    Sf first hd b (A.length, s.1, s.2) ∧ stp hd b (A.length, s.1, s.2) comma = (A.length + t.tx.length, s'.1, s'.2) := by
  cases t with
  | take l =>
    simp only [tstep] at h
    split at h
    · rename_i c
      cases h
      have e : b = A ++ (43 :: b8 (97 + l) :: B) := e
      have ha : atB b A.length = 43 := (two_at e).2.1
      have hn := num_l c.1 e
      have hN : numP b A.length = l := by unfold numP; rw [if_pos (by omega), hn]
      have hf : faultP hd b A.length s.1 s.2 = 0 := by unfold faultP; rw [if_pos ha, hN, hasB_n _ _ c.1, c.2.1]; rfl
      refine ⟨⟨hf, fun m n hm hk => ?_, hs.op, fun hh n hk => ?_, fun x hx => ?_⟩, stp_of hf ?_⟩
      · have := (tk_bit hok hk).2.2
        simp only [hn] at this
        rw [this]
        exact below_of c.2.2.1 (bit_six hs.lo hm) hm
      · have := (tk_bit hok hk).2.2
        simp only [hn] at this
        rw [this]
        exact c.2.2.2.1 hh
      · rcases hx.1 with x | x
        · simp only [ha] at x; omega
        · simp only [ha] at x; omega
      · unfold nextP; rw [if_pos ha, hn]; rfl
    · cases h
  | give l =>
    simp only [tstep] at h
    split at h
    · rename_i c
      cases h
      have e : b = A ++ (45 :: b8 (97 + l) :: B) := e
      have ha : atB b A.length = 45 := (two_at e).2.1
      have hn := num_l c.1 e
      have hN : numP b A.length = l := by unfold numP; rw [if_pos (by omega), hn]
      have hf : faultP hd b A.length s.1 s.2 = 0 := by unfold faultP; rw [if_neg (by omega), if_pos ha, hN, hasB_n _ _ c.1, c.2]; rfl
      exact ⟨sf_plain hok hs hf (by omega) (by omega) (by omega), stp_of hf (by unfold nextP; rw [if_neg (by omega), if_pos ha, hn]; rfl)⟩
    · cases h
  | rd x =>
    simp only [tstep] at h
    split at h
    · rename_i c
      cases h
      have e : b = A ++ (114 :: b8 (48 + x) :: B) := e
      have ha : atB b A.length = 114 := (two_at e).2.1
      have hn := num_c c.1 e
      have hf : faultP hd b A.length s.1 s.2 = 0 := by unfold faultP; repeat rw [if_neg (by omega)]
      refine ⟨⟨hf, fun l m _ hm => absurd (tk_bit hok hm).1 (by simp only [ha]; omega), hs.op, fun _ m hm => absurd (tk_bit hok hm).1 (by simp only [ha]; omega), fun y hy => ?_⟩, stp_of hf (by unfold nextP; rw [if_neg (by omega), if_neg (by omega), if_pos (by omega)]; rfl)⟩
      have this : numP b A.length = (y : Int) := hy.2
      unfold numP at this
      rw [if_pos (by omega), hn] at this
      rw [show y = x by omega]; exact c.2
    · cases h
  | wr x =>
    simp only [tstep] at h
    split at h
    · rename_i c
      cases h
      have e : b = A ++ (119 :: b8 (48 + x) :: B) := e
      have ha : atB b A.length = 119 := (two_at e).2.1
      have hn := num_c c.1 e
      have hf : faultP hd b A.length s.1 s.2 = 0 := by unfold faultP; repeat rw [if_neg (by omega)]
      refine ⟨⟨hf, fun l m _ hm => absurd (tk_bit hok hm).1 (by simp only [ha]; omega), hs.op, fun _ m hm => absurd (tk_bit hok hm).1 (by simp only [ha]; omega), fun y hy => ?_⟩, stp_of hf (by unfold nextP; rw [if_neg (by omega), if_neg (by omega), if_pos (by omega)]; rfl)⟩
      have this : numP b A.length = (y : Int) := hy.2
      unfold numP at this
      rw [if_pos (by omega), hn] at this
      rw [show y = x by omega]; exact c.2
    · cases h
  | dis =>
    simp only [tstep] at h
    split at h
    · rename_i c
      cases h
      have ha : atB b A.length = 60 := (one_at (B := B) e).2
      have hf : faultP hd b A.length s.1 s.2 = 0 := by unfold faultP; rw [if_neg (by omega), if_neg (by omega), if_neg (by omega), if_pos (by omega), c]; rfl
      exact ⟨sf_plain hok hs hf (by omega) (by omega) (by omega), stp_of hf (by unfold nextP; rw [if_neg (by omega), if_neg (by omega), if_neg (by omega), if_pos ha]; rfl)⟩
    · cases h
  | ena =>
    simp only [tstep] at h
    split at h
    · rename_i c
      cases h
      have ha : atB b A.length = 62 := (one_at (B := B) e).2
      have hf : faultP hd b A.length s.1 s.2 = 0 := by unfold faultP; rw [if_neg (by omega), if_neg (by omega), if_neg (by omega), if_pos (by omega), c.1]; rfl
      exact ⟨sf_plain hok hs hf (by omega) (by omega) (by omega), stp_of hf (by unfold nextP; rw [if_neg (by omega), if_neg (by omega), if_neg (by omega), if_neg (by omega), if_pos ha]; rfl)⟩
    · cases h
  | slp =>
    simp only [tstep] at h
    split at h
    · rename_i c
      cases h
      have ha : atB b A.length = 122 := (one_at (B := B) e).2
      have hf : faultP hd b A.length s.1 s.2 = 0 := by
        unfold faultP
        rw [if_neg (by omega), if_neg (by omega), if_pos ha, if_neg]
        rw [c.1, c.2.1, c.2.2]; decide
      exact ⟨sf_plain hok hs hf (by omega) (by omega) (by omega), stp_of hf (by unfold nextP; rw [if_neg (by omega), if_neg (by omega), if_neg (by omega), if_neg (by omega), if_neg (by omega), if_neg (by omega), if_neg (by omega), if_pos (by omega)]; rfl)⟩
    · cases h
theorem tok_bd {first : Nat} {hd : Bool} {t : Tk} {s s' : Nat × Bool} (h : tstep first hd s t = some s') : Bd t.tx ∧ (∀ o n, runS ⟨2, o, n⟩ t.tx = some ⟨2, o, n⟩) ∧ okB t.tx := by
  cases t with
  | take l =>
    simp only [tstep] at h
    split at h
    · rename_i c
      have := lk_b8 c.1
      exact ⟨.lock _ _ _ (by decide) this .nil, fun o n => run2 _ _ (by decide) this, ok2 (by decide) (lk_ok this)⟩
    · cases h
  | give l =>
    simp only [tstep] at h
    split at h
    · rename_i c
      have := lk_b8 c.1
      exact ⟨.lock _ _ _ (by decide) this .nil, fun o n => run2 _ _ (by decide) this, ok2 (by decide) (lk_ok this)⟩
    · cases h
  | rd l =>
    simp only [tstep] at h
    split at h
    · rename_i c
      have := cl_b8 c.1
      exact ⟨.cell _ _ _ (by decide) this .nil, fun o n => run2c _ _ (by decide) this, ok2 (by decide) (cl_ok this)⟩
    · cases h
  | wr l =>
    simp only [tstep] at h
    split at h
    · rename_i c
      have := cl_b8 c.1
      exact ⟨.cell _ _ _ (by decide) this .nil, fun o n => run2c _ _ (by decide) this, ok2 (by decide) (cl_ok this)⟩
    · cases h
  | dis => exact ⟨.one _ _ (by decide) .nil, fun o n => run1 _ (by decide), ok1 (by decide)⟩
  | ena => exact ⟨.one _ _ (by decide) .nil, fun o n => run1 _ (by decide), ok1 (by decide)⟩
  | slp => exact ⟨.one _ _ (by decide) .nil, fun o n => run1 _ (by decide), ok1 (by decide)⟩
theorem tks_bd {first : Nat} {hd : Bool} {ts : List Tk} : ∀ {s s' : Nat × Bool}, trun first hd s ts = some s' → Bd (tks ts) ∧ (∀ o n, runS ⟨2, o, n⟩ (tks ts) = some ⟨2, o, n⟩) ∧ okB (tks ts) := by
  induction ts with
  | nil => intro s s' _; exact ⟨.nil, fun o n => rfl, fun c hc => by simp [tks] at hc⟩
  | cons t r ih =>
    intro s s' e
    rw [trun] at e
    cases e2 : tstep first hd s t with
    | none => rw [e2] at e; cases e
    | some z =>
      rw [e2] at e
      obtain ⟨a1, a2, a3⟩ := tok_bd e2
      obtain ⟨b1, b2, b3⟩ := ih e
      rw [tks_cons]
      exact ⟨a1.app b1, fun o n => by rw [runS_app, a2]; exact b2 o n, a3.app b3⟩
/-- Tokens, loops of them, choices between them and nothing. -/
inductive Sg
  | tk (t : Tk)
  | star (ts : List Tk)
  | alt (ts : List Tk)
def Sg.tx : Sg → List UInt8
  | .tk t => t.tx
  | .star ts => 91 :: (tks ts ++ [93])
  | .alt ts => 40 :: (tks ts ++ [124, 41])
def sgs (l : List Sg) : List UInt8 := l.flatMap Sg.tx
theorem sgs_cons (t : Sg) (r : List Sg) : sgs (t :: r) = t.tx ++ sgs r := by simp [sgs]
theorem sgs_app (a b : List Sg) : sgs (a ++ b) = sgs a ++ sgs b := by simp [sgs]
def gstep (first : Nat) (hd : Bool) (s : Nat × Bool) : Sg → Option (Nat × Bool)
  | .tk t => tstep first hd s t
  | .star ts => if s = (0, hd) ∧ trun first hd (0, hd) ts = some (0, hd) then some s else none
  | .alt ts => if s = (0, hd) ∧ trun first hd (0, hd) ts = some (0, hd) then some s else none
def grun (first : Nat) (hd : Bool) : Nat × Bool → List Sg → Option (Nat × Bool)
  | s, [] => some s
  | s, t :: r => match gstep first hd s t with
    | none => none
    | some s' => grun first hd s' r
theorem grun_app (first : Nat) (hd : Bool) (a b : List Sg) : ∀ s, grun first hd s (a ++ b) = match grun first hd s a with | none => none | some s' => grun first hd s' b := by
  induction a with
  | nil => intro s; rfl
  | cons t r ih =>
    intro s
    simp only [List.cons_append, grun]
    cases gstep first hd s t with
    | none => rfl
    | some s' => exact ih s'
theorem SS.gstep {first : Nat} {hd : Bool} {s s' : Nat × Bool} (h : SS first hd s) {t : Sg} (ht : gstep first hd s t = some s') : SS first hd s' := by
  cases t with
  | tk t => exact h.step ht
  | star ts =>
    simp only [Mc.gstep] at ht
    split at ht
    · cases ht; exact h
    · cases ht
  | alt ts =>
    simp only [Mc.gstep] at ht
    split at ht
    · cases ht; exact h
    · cases ht
theorem SS.grun {first : Nat} {hd : Bool} {ts : List Sg} : ∀ {s s' : Nat × Bool}, SS first hd s → grun first hd s ts = some s' → SS first hd s' := by
  induction ts with
  | nil => intro s s' h e; cases e; exact h
  | cons t r ih =>
    intro s s' h e
    rw [Mc.grun] at e
    cases e2 : Mc.gstep first hd s t with
    | none => rw [e2] at e; cases e
    | some z => rw [e2] at e; exact ih (h.gstep e2) e
theorem seg_bd {first : Nat} {hd : Bool} {t : Sg} {s s' : Nat × Bool} (h : gstep first hd s t = some s') : Bd t.tx ∧ Wv t.tx := by
  cases t with
  | tk t =>
    obtain ⟨h1, h2, h3⟩ := tok_bd h
    exact ⟨h1, fun n => h2 _ n, h3⟩
  | star ts =>
    simp only [gstep] at h
    split at h
    · rename_i c
      obtain ⟨h1, h2, h3⟩ := tks_bd c.2
      refine ⟨.star _ _ h1 .nil, fun n => ?_, ?_⟩
      · have e1 : stepP ⟨2, [], n⟩ (bt 91) = some ⟨2, [91], n⟩ := rfl
        have e2 : stepP ⟨2, [91], n⟩ (bt 93) = some ⟨2, [], n⟩ := rfl
        show runS ⟨2, [], n⟩ (91 :: (tks ts ++ [93])) = _
        rw [runS, e1]
        simp only
        rw [runS_app, h2]
        simp only [Option.bind_some, runS, e2]
      · intro x hx
        simp only [Sg.tx, List.mem_cons, List.mem_append, List.not_mem_nil, or_false] at hx
        rcases hx with rfl | hx | rfl
        · decide
        · exact h3 x hx
        · decide
    · cases h
  | alt ts =>
    simp only [gstep] at h
    split at h
    · rename_i c
      obtain ⟨h1, h2, h3⟩ := tks_bd c.2
      refine ⟨.alt _ [] [] h1 .nil .nil, fun n => ?_, ?_⟩
      · have e1 : stepP ⟨2, [], n⟩ (bt 40) = some ⟨2, [40], n⟩ := rfl
        have e2 : stepP ⟨2, [40], n⟩ (bt 124) = some ⟨2, [124], n⟩ := rfl
        have e3 : stepP ⟨2, [124], n⟩ (bt 41) = some ⟨2, [], n⟩ := rfl
        show runS ⟨2, [], n⟩ (40 :: (tks ts ++ [124, 41])) = _
        rw [runS, e1]
        simp only
        rw [runS_app, h2]
        simp only [Option.bind_some, runS, e2, e3]
      · intro x hx
        simp only [Sg.tx, List.mem_cons, List.mem_append, List.not_mem_nil, or_false] at hx
        rcases hx with rfl | hx | rfl | rfl
        · decide
        · exact h3 x hx
        · decide
        · decide
    · cases h
theorem sgs_bd {first : Nat} {hd : Bool} {ts : List Sg} : ∀ {s s' : Nat × Bool}, grun first hd s ts = some s' → Bd (sgs ts) ∧ Wv (sgs ts) := by
  induction ts with
  | nil => intro s s' _; exact ⟨.nil, Wv.nil⟩
  | cons t r ih =>
    intro s s' e
    rw [grun] at e
    cases e2 : gstep first hd s t with
    | none => rw [e2] at e; cases e
    | some z =>
      rw [e2] at e
      obtain ⟨a1, a2⟩ := seg_bd e2
      obtain ⟨b1, b2⟩ := ih e
      rw [sgs_cons]
      exact ⟨a1.app b1, fun n => by rw [runS_app, a2.run]; exact b2.run n, a2.ok.app b2.ok⟩
/-- Where a careful body is. -/
inductive CAt (first : Nat) (hd : Bool) (l : List Sg) : St3 → Prop
  | top (pre post : List Sg) (e : l = pre ++ post) (s : Nat × Bool) (h : grun first hd (0, hd) pre = some s) : CAt first hd l ((sgs pre).length, s.1, s.2)
  | star (pre : List Sg) (t1 t2 : List Tk) (post : List Sg) (e : l = pre ++ .star (t1 ++ t2) :: post) (s : Nat × Bool) (h : trun first hd (0, hd) t1 = some s) : CAt first hd l ((sgs pre ++ (91 :: tks t1)).length, s.1, s.2)
  | alt (pre : List Sg) (t1 t2 : List Tk) (post : List Sg) (e : l = pre ++ .alt (t1 ++ t2) :: post) (s : Nat × Bool) (h : trun first hd (0, hd) t1 = some s) : CAt first hd l ((sgs pre ++ (40 :: tks t1)).length, s.1, s.2)
  | bar (pre : List Sg) (ts : List Tk) (post : List Sg) (e : l = pre ++ .alt ts :: post) : CAt first hd l ((sgs pre ++ (40 :: (tks ts ++ [124]))).length, 0, hd)
theorem CAt.to {first : Nat} {hd : Bool} {l : List Sg} {s s' : St3} (h : CAt first hd l s) (e : s = s') : CAt first hd l s' := e ▸ h
/-- At a segment: what the whole says of it. -/
theorem seg_in {first : Nat} {hd : Bool} {l pre post : List Sg} {x : Sg} (hl : grun first hd (0, hd) l = some (0, hd)) (e : l = pre ++ x :: post) : ∃ s s', grun first hd (0, hd) pre = some s ∧ gstep first hd s x = some s' ∧ grun first hd (0, hd) (pre ++ [x]) = some s' := by
  rw [e, grun_app] at hl
  cases h1 : grun first hd (0, hd) pre with
  | none => rw [h1] at hl; cases hl
  | some s =>
    rw [h1] at hl
    simp only [grun] at hl
    cases h2 : gstep first hd s x with
    | none => rw [h2] at hl; cases hl
    | some s' =>
      refine ⟨s, s', rfl, h2, ?_⟩
      rw [grun_app, h1]
      simp only [grun, h2]
theorem star_in {first : Nat} {hd : Bool} {s s' : Nat × Bool} {ts : List Tk} (h : gstep first hd s (.star ts) = some s') : s = (0, hd) ∧ s' = (0, hd) ∧ trun first hd (0, hd) ts = some (0, hd) := by
  simp only [gstep] at h
  split at h
  · rename_i c; cases h; exact ⟨c.1, c.1, c.2⟩
  · cases h
theorem alt_in {first : Nat} {hd : Bool} {s s' : Nat × Bool} {ts : List Tk} (h : gstep first hd s (.alt ts) = some s') : s = (0, hd) ∧ s' = (0, hd) ∧ trun first hd (0, hd) ts = some (0, hd) := by
  simp only [gstep] at h
  split at h
  · rename_i c; cases h; exact ⟨c.1, c.1, c.2⟩
  · cases h
theorem CAt.go {first : Nat} {hd : Bool} {l : List Sg} (hl : grun first hd (0, hd) l = some (0, hd)) {s : St3} (h : CAt first hd l s) (comma : Bool) : Sf first hd (sgs l) s ∧ CAt first hd l (stp hd (sgs l) s comma) := by
  have hb := (sgs_bd hl).1
  have hok : PairOK (sgs l) := pairOK_bd hb
  have s0 := SS.zero first hd
  cases h with
  | top pre post e s h =>
    have hs := s0.grun h
    cases post with
    | nil =>
      have e : l = pre := by rw [e, List.append_nil]
      subst e
      rw [hl] at h
      cases h
      have hp : ¬ (sgs l).length < (sgs l).length := by omega
      have ha : atB (sgs l) (sgs l).length = 101 := by simp [atB]
      have hf : faultP hd (sgs l) (sgs l).length 0 hd = 0 := by
        unfold faultP
        rw [if_neg (by omega), if_neg (by omega), if_neg (by omega), if_neg (by omega), if_pos ha, if_neg]
        cases hd <;> decide
      refine ⟨sf_plain hok s0 hf (by omega) (by omega) (by omega), ?_⟩
      exact (CAt.top l [] (by simp) (0, hd) hl).to (stp_of hf (nextP_end hp _ _ _)).symm
    | cons x r =>
      obtain ⟨z, z', h1, h2, h3⟩ := seg_in hl e
      rw [h] at h1
      cases h1
      have eb : sgs l = sgs pre ++ (x.tx ++ sgs r) := by rw [e, sgs_app, sgs_cons]
      cases x with
      | tk t =>
        obtain ⟨g1, g2⟩ := tok_at hok eb hs h2 comma
        refine ⟨g1, (CAt.top (pre ++ [.tk t]) r (by rw [e]; simp) z' h3).to ?_⟩
        rw [g2, sgs_app]
        simp [sgs, Sg.tx]
      | star ts =>
        obtain ⟨rfl, rfl, h4⟩ := star_in h2
        have eb2 : sgs l = sgs pre ++ 91 :: (tks ts ++ 93 :: sgs r) := by rw [eb]; simp [Sg.tx]
        obtain ⟨hp, ha⟩ := one_at eb2
        have ha : atB (sgs l) (sgs pre).length = 91 := ha
        have hat : at_ (sgs l) (sgs pre).length = 91 := by rw [atB, if_pos hp] at ha; exact ha
        have hS : Star (sgs l) (sgs pre).length ((sgs pre).length + 1 + (tks ts).length) := ⟨sgs pre, tks ts, sgs r, eb2, rfl, rfl, (tks_bd h4).1⟩
        have hld := leads_91 hb _ hp hat
        rw [hS.close] at hld
        have hf : faultP hd (sgs l) (sgs pre).length 0 hd = 0 := by unfold faultP; repeat rw [if_neg (by omega)]
        refine ⟨sf_plain hok s0 hf (by omega) (by omega) (by omega), ?_⟩
        have hn : nextP (sgs l) (sgs pre).length 0 hd comma = (if comma = true then leads (sgs l) (sgs pre).length else (sgs pre).length + 1, 0, hd) := by
          unfold nextP
          rw [if_neg (by omega), if_neg (by omega), if_neg (by omega), if_neg (by omega), if_neg (by omega), if_pos (by omega)]
        cases comma
        · refine (CAt.star pre [] ts r e (0, hd) rfl).to ?_
          rw [stp_of hf hn]; simp [tks]
        · refine (CAt.top (pre ++ [.star ts]) r (by rw [e]; simp) (0, hd) h3).to ?_
          rw [stp_of hf hn, if_pos rfl, hld, sgs_app]; simp [sgs, Sg.tx]; omega
      | alt ts =>
        obtain ⟨rfl, rfl, h4⟩ := alt_in h2
        have eb2 : sgs l = sgs pre ++ 40 :: (tks ts ++ 124 :: ([] ++ 41 :: sgs r)) := by rw [eb]; simp [Sg.tx]
        obtain ⟨hp, ha⟩ := one_at eb2
        have ha : atB (sgs l) (sgs pre).length = 40 := ha
        have hat : at_ (sgs l) (sgs pre).length = 40 := by rw [atB, if_pos hp] at ha; exact ha
        have hS : Alt (sgs l) (sgs pre).length ((sgs pre).length + 1 + (tks ts).length) ((sgs pre).length + 1 + (tks ts).length + 1) := ⟨sgs pre, tks ts, [], sgs r, eb2, rfl, rfl, rfl, (tks_bd h4).1, .nil⟩
        have hld := leads_40 hb _ hp hat
        rw [hS.bar] at hld
        have hf : faultP hd (sgs l) (sgs pre).length 0 hd = 0 := by unfold faultP; repeat rw [if_neg (by omega)]
        refine ⟨sf_plain hok s0 hf (by omega) (by omega) (by omega), ?_⟩
        have hn : nextP (sgs l) (sgs pre).length 0 hd comma = (if comma = true then leads (sgs l) (sgs pre).length else (sgs pre).length + 1, 0, hd) := by
          unfold nextP
          rw [if_neg (by omega), if_neg (by omega), if_neg (by omega), if_neg (by omega), if_neg (by omega), if_pos (by omega)]
        cases comma
        · refine (CAt.alt pre [] ts r e (0, hd) rfl).to ?_
          rw [stp_of hf hn]; simp [tks]
        · refine (CAt.bar pre ts r e).to ?_
          rw [stp_of hf hn, if_pos rfl, hld]; simp; omega
  | star pre t1 t2 post e s h =>
    have hs := s0.run h
    obtain ⟨z, z', h1, h2, h3⟩ := seg_in hl e
    obtain ⟨rfl, rfl, h4⟩ := star_in h2
    cases t2 with
    | nil =>
      rw [List.append_nil] at e h4 h3
      rw [h] at h4
      cases h4
      have eb2 : sgs l = sgs pre ++ 91 :: (tks t1 ++ 93 :: sgs post) := by rw [e, sgs_app, sgs_cons]; simp [Sg.tx]
      have eb3 : sgs l = (sgs pre ++ (91 :: tks t1)) ++ (93 :: sgs post) := by rw [eb2]; simp
      obtain ⟨hp, ha⟩ := one_at eb3
      have ha : atB (sgs l) (sgs pre ++ (91 :: tks t1)).length = 93 := ha
      have hat : at_ (sgs l) (sgs pre ++ (91 :: tks t1)).length = 93 := by rw [atB, if_pos hp] at ha; exact ha
      have hS : Star (sgs l) (sgs pre).length (sgs pre ++ (91 :: tks t1)).length := ⟨sgs pre, tks t1, sgs post, eb2, rfl, by simp; omega, (tks_bd h).1⟩
      have hld := leads_93 hb _ hp hat
      rw [hS.back] at hld
      have hf : faultP hd (sgs l) (sgs pre ++ (91 :: tks t1)).length 0 hd = 0 := by unfold faultP; repeat rw [if_neg (by omega)]
      refine ⟨sf_plain hok s0 hf (by omega) (by omega) (by omega), ?_⟩
      refine (CAt.top pre (.star t1 :: post) e (0, hd) h1).to ?_
      rw [stp_of hf (by unfold nextP; rw [if_neg (by omega), if_neg (by omega), if_neg (by omega), if_neg (by omega), if_neg (by omega), if_neg (by omega), if_pos (by omega), hld])]
    | cons t r =>
      have h5 := h4
      rw [trun_app, h] at h5
      simp only [trun] at h5
      cases h6 : tstep first hd s t with
      | none => rw [h6] at h5; cases h5
      | some s' =>
        have eb : sgs l = (sgs pre ++ (91 :: tks t1)) ++ (t.tx ++ (tks r ++ 93 :: sgs post)) := by rw [e, sgs_app, sgs_cons]; simp [Sg.tx, tks_app, tks_cons]
        obtain ⟨g1, g2⟩ := tok_at hok eb hs h6 comma
        refine ⟨g1, (CAt.star pre (t1 ++ [t]) r post (by rw [e]; simp) s' (by rw [trun_app, h]; simp only [trun, h6])).to ?_⟩
        rw [g2]
        simp [tks_app, tks_cons, tks]; omega
  | alt pre t1 t2 post e s h =>
    have hs := s0.run h
    obtain ⟨z, z', h1, h2, h3⟩ := seg_in hl e
    obtain ⟨rfl, rfl, h4⟩ := alt_in h2
    cases t2 with
    | nil =>
      rw [List.append_nil] at e h4 h3
      rw [h] at h4
      cases h4
      have eb2 : sgs l = sgs pre ++ 40 :: (tks t1 ++ 124 :: ([] ++ 41 :: sgs post)) := by rw [e, sgs_app, sgs_cons]; simp [Sg.tx]
      have eb3 : sgs l = (sgs pre ++ (40 :: tks t1)) ++ (124 :: 41 :: sgs post) := by rw [eb2]; simp
      obtain ⟨hp, ha⟩ := one_at eb3
      have ha : atB (sgs l) (sgs pre ++ (40 :: tks t1)).length = 124 := ha
      have hat : at_ (sgs l) (sgs pre ++ (40 :: tks t1)).length = 124 := by rw [atB, if_pos hp] at ha; exact ha
      have hS : Alt (sgs l) (sgs pre).length (sgs pre ++ (40 :: tks t1)).length ((sgs pre ++ (40 :: tks t1)).length + 1) := ⟨sgs pre, tks t1, [], sgs post, eb2, rfl, by simp; omega, by simp, (tks_bd h).1, .nil⟩
      have hld := leads_124 hb _ hp hat
      rw [hS.close] at hld
      have hf : faultP hd (sgs l) (sgs pre ++ (40 :: tks t1)).length 0 hd = 0 := by unfold faultP; repeat rw [if_neg (by omega)]
      refine ⟨sf_plain hok s0 hf (by omega) (by omega) (by omega), ?_⟩
      refine (CAt.top (pre ++ [.alt t1]) post (by rw [e]; simp) (0, hd) h3).to ?_
      rw [stp_of hf (by unfold nextP; rw [if_neg (by omega), if_neg (by omega), if_neg (by omega), if_neg (by omega), if_neg (by omega), if_neg (by omega), if_pos (by omega), hld]), sgs_app]
      simp [sgs, Sg.tx]; omega
    | cons t r =>
      have h5 := h4
      rw [trun_app, h] at h5
      simp only [trun] at h5
      cases h6 : tstep first hd s t with
      | none => rw [h6] at h5; cases h5
      | some s' =>
        have eb : sgs l = (sgs pre ++ (40 :: tks t1)) ++ (t.tx ++ (tks r ++ 124 :: 41 :: sgs post)) := by rw [e, sgs_app, sgs_cons]; simp [Sg.tx, tks_app, tks_cons]
        obtain ⟨g1, g2⟩ := tok_at hok eb hs h6 comma
        refine ⟨g1, (CAt.alt pre (t1 ++ [t]) r post (by rw [e]; simp) s' (by rw [trun_app, h]; simp only [trun, h6])).to ?_⟩
        rw [g2]
        simp [tks_app, tks_cons, tks]; omega
  | bar pre ts post e =>
    obtain ⟨z, z', h1, h2, h3⟩ := seg_in hl e
    obtain ⟨rfl, rfl, h4⟩ := alt_in h2
    have eb3 : sgs l = (sgs pre ++ (40 :: (tks ts ++ [124]))) ++ (41 :: sgs post) := by rw [e, sgs_app, sgs_cons]; simp [Sg.tx]
    obtain ⟨hp, ha⟩ := one_at eb3
    have ha : atB (sgs l) (sgs pre ++ (40 :: (tks ts ++ [124]))).length = 41 := ha
    have hf : faultP hd (sgs l) (sgs pre ++ (40 :: (tks ts ++ [124]))).length 0 hd = 0 := by unfold faultP; repeat rw [if_neg (by omega)]
    refine ⟨sf_plain hok s0 hf (by omega) (by omega) (by omega), ?_⟩
    refine (CAt.top (pre ++ [.alt ts]) post (by rw [e]; simp) (0, hd) h3).to ?_
    have hn : nextP (sgs l) (sgs pre ++ (40 :: (tks ts ++ [124]))).length 0 hd comma = ((sgs pre ++ (40 :: (tks ts ++ [124]))).length + 1, 0, hd) := by
      unfold nextP
      rw [if_neg (by omega), if_neg (by omega), if_neg (by omega), if_neg (by omega), if_neg (by omega), if_neg (by omega), if_neg (by omega), if_pos (by omega)]
    rw [stp_of hf hn, sgs_app]
    simp [sgs, Sg.tx]; omega
theorem Rch.careful {first : Nat} {hd : Bool} {l : List Sg} (hl : grun first hd (0, hd) l = some (0, hd)) {s : St3} (h : Rch hd (sgs l) s) : Sf first hd (sgs l) s := by
  have : CAt first hd l s := by
    induction h with
    | begin => exact (CAt.top [] l rfl (0, hd) rfl).to rfl
    | step _ c ih => exact (ih.go hl c).2
  exact (this.go hl false).1
end Mc
end Go.Proofs.Ytecmfdkhcffpmaa
