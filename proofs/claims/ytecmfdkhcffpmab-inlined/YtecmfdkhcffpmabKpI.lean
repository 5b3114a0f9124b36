/- Plain: a source with three functions, unfolded. -/
import Derived.Test.YtecmfdkhcffpmabB04
namespace Go.Proofs.Ytecmfdkhcffpmab
open Go.RowKit
set_option linter.unusedSimpArgs false
set_option linter.unusedVariables false
namespace Wd
/-- Of a name: nothing, or the name. -/
def nmB (u : Bool) (c : UInt8) : List UInt8 := if u = true then [c] else []
def txB (u : Bool) (t : List UInt8) : List UInt8 := if u = true then t else []
/-- Three functions: what they have of their own, and whether the first has the second's name, the second the third's. -/
structure Thr where
  w0 : List UInt8
  w1 : List UInt8
  w2 : List UInt8
  u0 : Bool
  u1 : Bool
namespace Thr
def f2 (t : Thr) : List UInt8 := t.w2
def f1 (t : Thr) : List UInt8 := nmB t.u1 67 ++ t.w1
def f0 (t : Thr) : List UInt8 := nmB t.u0 66 ++ t.w0
def p2 (t : Thr) : List UInt8 := t.w2
def p1 (t : Thr) : List UInt8 := txB t.u1 t.p2 ++ t.w1
def p0 (t : Thr) : List UInt8 := txB t.u0 t.p1 ++ t.w0
structure Ok (t : Thr) : Prop where
  w0 : Wv t.w0
  w1 : Wv t.w1
  w2 : Wv t.w2
  l0 : t.w0.length ≤ 6
  l1 : t.w1.length ≤ 6
  l2 : t.w2.length ≤ 8
/-- The functions, so far. -/
def fn (t : Thr) (a b c : Bool) : Nat → Fn := fun j =>
  if j = 0 then ⟨true, t.f0, a, a, txB a t.p0⟩ else if j = 1 then ⟨true, t.f1, b, b, txB b t.p1⟩ else if j = 2 then ⟨true, t.f2, c, c, txB c t.p2⟩ else fn0
end Thr
theorem okB.noUp {b : List UInt8} (h : okB b) : ∀ c ∈ b, up (bt c) = false := fun c hc => (h c hc).1
theorem exp_okB (G : Nat → Fn) {b : List UInt8} (h : okB b) : exp G b = b := by
  induction b with
  | nil => rfl
  | cons c r ih =>
    have hc := (h c (by simp)).1
    have e : exp G (c :: r) = expC G c ++ exp G r := rfl
    rw [e, ih (fun x hx => h x (by simp [hx]))]
    unfold expC
    rw [hc]; rfl
theorem exp_app (G : Nat → Fn) (a b : List UInt8) : exp G (a ++ b) = exp G a ++ exp G b := by simp [exp]
theorem exp_nm (G : Nat → Fn) (u : Bool) (c : UInt8) (hc : up (bt c) = true) : exp G (nmB u c) = txB u (G (bt c - 65).toNat).text := by
  unfold nmB txB
  cases u
  · rfl
  · simp [exp, expC, hc]
theorem unf_fit (G : Nat → Fn) (b acc : List UInt8) (hf : ∀ c ∈ b, up (bt c) = true → (G (bt c - 65).toNat).fits = true) (hl : (acc ++ exp G b).length ≤ 300) : unf G b acc = some (acc ++ exp G b) := by
  induction b generalizing acc with
  | nil => simp [unf, exp]
  | cons c r ih =>
    have e : exp G (c :: r) = expC G c ++ exp G r := rfl
    rw [e, ← List.append_assoc] at hl ⊢
    rw [unf]
    cases hu : up (bt c)
    · have ec : expC G c = [c] := by unfold expC; rw [hu]; rfl
      rw [ec] at hl ⊢
      rw [if_neg (by decide), if_neg (by rw [List.length_append] at hl; omega), ih _ (fun x hx => hf x (by simp [hx])) hl]
    · have ec : expC G c = (G (bt c - 65).toNat).text := by unfold expC; rw [hu]; rfl
      rw [ec] at hl ⊢
      rw [if_pos rfl, if_pos (hf c (by simp) hu), if_neg (by rw [List.length_append] at hl; omega), ih _ (fun x hx => hf x (by simp [hx])) hl]
/-- Whether all names in a body are done, by the one name that may be there. -/
theorem allDone_nm (F : Nat → Fn) (u : Bool) (c : UInt8) (hc : up (bt c) = true) {b : List UInt8} (hb : okB b) : allDone F (nmB u c ++ b) = (!u || (F (bt c - 65).toNat).done) := by
  have key : ∀ d ∈ b, up (bt d) = false := hb.noUp
  unfold allDone
  cases u
  · have e : first (undoneP F (nmB false c ++ b)) (nmB false c ++ b).length = none := by
      apply first_no
      intro j hj
      have e2 : at_ (nmB false c ++ b) j = bt (nmB false c ++ b)[j] := by simp only [at_, bt, List.getElem?_eq_getElem hj, Option.getD_some]
      unfold undoneP
      rw [e2, key _ (show (nmB false c ++ b)[j] ∈ b from List.getElem_mem (l := b) (by simpa [nmB] using hj))]; rfl
    rw [e]; rfl
  · cases hd : (F (bt c - 65).toNat).done
    · have e : first (undoneP F (nmB true c ++ b)) (nmB true c ++ b).length = some 0 := by
        apply first_yes (by simp [nmB]) ?_ (fun j hj => by omega)
        have e2 : at_ (nmB true c ++ b) 0 = bt c := by simp [nmB, at_, bt]
        unfold undoneP
        rw [e2, hc, hd]; rfl
      rw [e]; rfl
    · have e : first (undoneP F (nmB true c ++ b)) (nmB true c ++ b).length = none := by
        apply first_no
        intro j hj
        have e2 : at_ (nmB true c ++ b) j = bt (nmB true c ++ b)[j] := by simp only [at_, bt, List.getElem?_eq_getElem hj, Option.getD_some]
        unfold undoneP
        rw [e2]
        have hm := List.getElem_mem hj
        rcases List.mem_append.1 hm with h | h
        · have h : (nmB true c ++ b)[j] = c := by simpa [nmB] using h
          rw [h, hc, hd]; rfl
        · rw [key _ h]; rfl
      rw [e]; rfl
namespace Thr
theorem len1 {t : Thr} (h : t.Ok) : t.p1.length ≤ 14 := by
  have := h.l1; have := h.l2
  unfold p1 p2 txB
  cases t.u1 <;> simp <;> omega
theorem len0 {t : Thr} (h : t.Ok) : t.p0.length ≤ 20 := by
  have := h.l0; have := len1 h
  unfold p0 txB
  cases t.u0 <;> simp <;> omega
theorem len2 {t : Thr} (h : t.Ok) : t.p2.length ≤ 8 := h.l2
/-- One function is looked at. -/
theorem step0 {t : Thr} (h : t.Ok) (a b c : Bool) : readyStep (t.fn a b c) 0 = t.fn (a || (!t.u0 || b)) b c := by
  have hd := allDone_nm (t.fn a b c) t.u0 66 (by decide) h.w0.ok
  have hd : allDone (t.fn a b c) t.f0 = (!t.u0 || b) := hd
  unfold readyStep
  cases a
  · cases hq : (!t.u0 || b)
    · rw [if_neg (by rintro ⟨_, _, h3⟩; have h3 : allDone (t.fn false b c) t.f0 = true := h3; rw [hd, hq] at h3; cases h3)]
      rfl
    · rw [if_pos ⟨rfl, rfl, by show allDone (t.fn false b c) t.f0 = true; rw [hd, hq]⟩]
      have hu : unfold (t.fn false b c) t.f0 = some t.p0 := by
        have he : exp (t.fn false b c) t.f0 = t.p0 := by
          unfold f0 p0
          rw [exp_app, exp_okB _ h.w0.ok, exp_nm _ _ _ (by decide)]
          cases hu0 : t.u0
          · rfl
          · rw [hu0] at hq
            have hb : b = true := by simpa using hq
            subst hb; rfl
        have hl := len0 h
        have := unf_fit (t.fn false b c) t.f0 [] (fun d hdm hup => by
          unfold f0 at hdm
          rcases List.mem_append.1 hdm with hh | hh
          · unfold nmB at hh
            cases hu0 : t.u0
            · rw [hu0] at hh; simp at hh
            · rw [hu0] at hh hq
              have hb : b = true := by simpa using hq
              subst hb
              simp at hh; subst hh; rfl
          · rw [h.w0.ok.noUp d hh] at hup; cases hup) (by rw [he]; simp; omega)
        rw [he] at this
        unfold unfold; simpa using this
      funext j
      by_cases hj : j = 0
      · subst hj
        rw [if_pos rfl]
        show newFn (t.fn false b c) ⟨true, t.f0, false, false, _⟩ = _
        unfold newFn
        simp only [hu]
        rfl
      · rw [if_neg hj]
        unfold fn
        rw [if_neg hj, if_neg hj]
  · rw [if_neg (by rintro ⟨_, h2, _⟩; cases h2)]
    rfl
theorem step1 {t : Thr} (h : t.Ok) (a b c : Bool) : readyStep (t.fn a b c) 1 = t.fn a (b || (!t.u1 || c)) c := by
  have hd := allDone_nm (t.fn a b c) t.u1 67 (by decide) h.w1.ok
  have hd : allDone (t.fn a b c) t.f1 = (!t.u1 || c) := hd
  unfold readyStep
  cases b
  · cases hq : (!t.u1 || c)
    · rw [if_neg (by rintro ⟨_, _, h3⟩; have h3 : allDone (t.fn a false c) t.f1 = true := h3; rw [hd, hq] at h3; cases h3)]
      rfl
    · rw [if_pos ⟨rfl, rfl, by show allDone (t.fn a false c) t.f1 = true; rw [hd, hq]⟩]
      have hu : unfold (t.fn a false c) t.f1 = some t.p1 := by
        have he : exp (t.fn a false c) t.f1 = t.p1 := by
          unfold f1 p1
          rw [exp_app, exp_okB _ h.w1.ok, exp_nm _ _ _ (by decide)]
          cases hu0 : t.u1
          · rfl
          · rw [hu0] at hq
            have hb : c = true := by simpa using hq
            subst hb; rfl
        have hl := len1 h
        have := unf_fit (t.fn a false c) t.f1 [] (fun d hdm hup => by
          unfold f1 at hdm
          rcases List.mem_append.1 hdm with hh | hh
          · unfold nmB at hh
            cases hu0 : t.u1
            · rw [hu0] at hh; simp at hh
            · rw [hu0] at hh hq
              have hb : c = true := by simpa using hq
              subst hb
              simp at hh; subst hh; rfl
          · rw [h.w1.ok.noUp d hh] at hup; cases hup) (by rw [he]; simp; omega)
        rw [he] at this
        unfold unfold; simpa using this
      funext j
      by_cases hj : j = 1
      · subst hj
        rw [if_pos rfl]
        show newFn (t.fn a false c) ⟨true, t.f1, false, false, _⟩ = _
        unfold newFn
        simp only [hu]
        rfl
      · rw [if_neg hj]
        unfold fn
        by_cases h0 : j = 0
        · rw [if_pos h0, if_pos h0]
        · rw [if_neg h0, if_neg h0, if_neg hj, if_neg hj]
  · rw [if_neg (by rintro ⟨_, h2, _⟩; cases h2)]
    rfl
theorem step2 {t : Thr} (h : t.Ok) (a b c : Bool) : readyStep (t.fn a b c) 2 = t.fn a b true := by
  have hd := allDone_nm (t.fn a b c) false 67 (by decide) h.w2.ok
  have hd : allDone (t.fn a b c) t.f2 = true := hd
  unfold readyStep
  cases c
  · rw [if_pos ⟨rfl, rfl, by show allDone (t.fn a b false) t.f2 = true; exact hd⟩]
    have hu : unfold (t.fn a b false) t.f2 = some t.p2 := by
      have := unf_okB (t.fn a b false) t.w2 [] h.w2.ok (by have := h.l2; simp; omega)
      rw [List.nil_append] at this
      exact this
    funext j
    by_cases hj : j = 2
    · subst hj
      rw [if_pos rfl]
      show newFn (t.fn a b false) ⟨true, t.f2, false, false, _⟩ = _
      unfold newFn
      simp only [hu]
      rfl
    · rw [if_neg hj]
      unfold fn
      by_cases h0 : j = 0
      · rw [if_pos h0, if_pos h0]
      · by_cases h1 : j = 1
        · rw [if_neg h0, if_neg h0, if_pos h1, if_pos h1]
        · rw [if_neg h0, if_neg h0, if_neg h1, if_neg h1, if_neg hj, if_neg hj]
  · rw [if_neg (by rintro ⟨_, h2, _⟩; cases h2)]
theorem stepN {t : Thr} (a b c : Bool) (n : Nat) (hn : 3 ≤ n) : readyStep (t.fn a b c) n = t.fn a b c := by
  unfold readyStep
  rw [if_neg]
  rintro ⟨h1, _, _⟩
  unfold fn at h1
  rw [if_neg (by omega), if_neg (by omega), if_neg (by omega)] at h1
  cases h1
theorem ready {t : Thr} (h : t.Ok) (a b c : Bool) : readyTo (t.fn a b c) 8 = t.fn (a || (!t.u0 || b)) (b || (!t.u1 || c)) true := by
  simp only [readyTo]
  rw [step0 h, step1 h, step2 h, stepN _ _ _ 3 (by omega), stepN _ _ _ 4 (by omega), stepN _ _ _ 5 (by omega), stepN _ _ _ 6 (by omega), stepN _ _ _ 7 (by omega)]
theorem rounds {t : Thr} (h : t.Ok) : roundsTo (t.fn false false false) 8 = t.fn true true true := by
  simp only [roundsTo]
  rw [ready h, ready h, ready h, ready h, ready h, ready h, ready h, ready h]
  congr 1
  · cases t.u0 <;> cases t.u1 <;> rfl
  · cases t.u0 <;> cases t.u1 <;> rfl
end Thr
/-- A body with names of the three in front and behind. -/
structure Itm where
  hd : Bool
  w : List UInt8
  a : Nat
  b : Nat
def nmN (a : Nat) : List UInt8 := if a = 1 then [65] else if a = 2 then [66] else if a = 3 then [67] else []
def Thr.tx (t : Thr) (a : Nat) : List UInt8 := if a = 1 then t.p0 else if a = 2 then t.p1 else if a = 3 then t.p2 else []
def Itm.fold (x : Itm) : List UInt8 := nmN x.a ++ (x.w ++ nmN x.b)
def Itm.plain (t : Thr) (x : Itm) : List UInt8 := t.tx x.a ++ (x.w ++ t.tx x.b)
structure Itm.Ok (x : Itm) : Prop where
  w : Wv x.w
  l : x.w.length ≤ 16
theorem nmN_mem {a : Nat} {c : UInt8} (h : c ∈ nmN a) : c = 65 ∨ c = 66 ∨ c = 67 := by
  unfold nmN at h
  split at h
  · simp at h; exact Or.inl h
  split at h
  · simp at h; exact Or.inr (Or.inl h)
  split at h
  · simp at h; exact Or.inr (Or.inr h)
  · simp at h
theorem nmN_len (a : Nat) : (nmN a).length ≤ 1 := by unfold nmN; repeat' split
                                                     all_goals simp
theorem tx_len {t : Thr} (h : t.Ok) (a : Nat) : (t.tx a).length ≤ 20 := by
  have := Thr.len0 h; have := Thr.len1 h; have := Thr.len2 h
  unfold Thr.tx
  repeat' split
  all_goals (try simp) <;> omega
/-- Bodies with names: the reader goes over them, they are clean, each name is one of the three. -/
structure WvU (b : List UInt8) : Prop where
  run : ∀ n, runS ⟨2, [], n⟩ b = some ⟨2, [], n⟩
  clean : clean b
  nm : ∀ c ∈ b, up (bt c) = true → c = 65 ∨ c = 66 ∨ c = 67
theorem WvU.app {a b : List UInt8} (ha : WvU a) (hb : WvU b) : WvU (a ++ b) := by
  refine ⟨fun n => by rw [runS_app, ha.run]; exact hb.run n, fun c hc => ?_, fun c hc => ?_⟩
  · rcases List.mem_append.1 hc with h | h
    · exact ha.clean c h
    · exact hb.clean c h
  · rcases List.mem_append.1 hc with h | h
    · exact ha.nm c h
    · exact hb.nm c h
theorem Wv.u {b : List UInt8} (h : Wv b) : WvU b := ⟨h.run, fun c hc => ⟨(h.ok c hc).2.1, (h.ok c hc).2.2⟩, fun c hc hu => by rw [(h.ok c hc).1] at hu; cases hu⟩
theorem wvU_one {c : UInt8} (h : c = 65 ∨ c = 66 ∨ c = 67) : WvU [c] := by
  rcases h with rfl | rfl | rfl
  all_goals
    refine ⟨fun n => rfl, fun d hd => ?_, fun d hd _ => ?_⟩
    · simp at hd; subst hd; decide
    · simp at hd; subst hd; decide
theorem wvU_nil : WvU [] := Wv.nil.u
theorem wvU_nm (a : Nat) : WvU (nmN a) := by
  unfold nmN
  split
  · exact wvU_one (by decide)
  split
  · exact wvU_one (by decide)
  split
  · exact wvU_one (by decide)
  · exact wvU_nil
theorem wvU_nmB (u : Bool) (c : UInt8) (h : c = 65 ∨ c = 66 ∨ c = 67) : WvU (nmB u c) := by
  unfold nmB
  cases u
  · exact wvU_nil
  · exact wvU_one h
def letIt (h : Bool) : UInt8 := letterOf h
/-- The items of a folded source: threads, handlers and the three functions, in some order. -/
def fnR (t : Thr) : List (UInt8 × List UInt8) := [(65, t.f0), (67, t.f2), (66, t.f1)]
def itR (xs : List Itm) : List (UInt8 × List UInt8) := xs.map fun x => (letterOf x.hd, x.fold)
def srcR (t : Thr) (xs : List Itm) (front : Bool) : List (UInt8 × List UInt8) := if front = true then fnR t ++ itR xs else itR xs ++ fnR t
def itsR (t : Thr) (xs : List Itm) : List It := xs.map fun x => ⟨x.hd, x.plain t⟩
/-- An item, or a function. -/
def UI (x : UInt8 × List UInt8) : Prop := (bt x.1 = 116 ∨ bt x.1 = 104 ∨ up (bt x.1) = true) ∧ WvU x.2
theorem UI.raw {x : UInt8 × List UInt8} (h : UI x) : okRaw x := ⟨h.1, h.2.clean⟩
theorem runS_flatU (rs : List (UInt8 × List UInt8)) (n : Nat) (h : ∀ x ∈ rs, UI x) (hn : n + rs.length ≤ 8) : runS ⟨0, [], n⟩ (flat rs) = some ⟨0, [], n + rs.length⟩ := by
  induction rs generalizing n with
  | nil => rfl
  | cons x r ih =>
    have hx := h x (by simp)
    have h1 : stepP ⟨0, [], n⟩ (bt x.1) = some ⟨1, [], n + 1⟩ := by
      have hl : n < 8 := by simp at hn; omega
      simp only [stepP, if_true]
      rw [if_pos ⟨hl, hx.1⟩]
    have h2 : stepP ⟨1, [], n + 1⟩ (bt 123) = some ⟨2, [], n + 1⟩ := by simp [stepP, bt]
    have h3 : stepP ⟨2, [], n + 1⟩ (bt 125) = some ⟨0, [], n + 1⟩ := by simp [stepP, bodyP, bt]
    have hr := ih (n + 1) (fun y hy => h y (by simp [hy])) (by simp at hn; omega)
    simp only [flat, runS, h1, h2]
    rw [runS_app, hx.2.run (n + 1)]
    simp only [Option.bind_some, runS, h3]
    rw [hr]; simp only [List.length_cons, show n + 1 + r.length = n + (r.length + 1) from by omega]
theorem fault_flatU (rs : List (UInt8 × List UInt8)) (h : ∀ x ∈ rs, UI x) (hn : rs.length ≤ 8) (h0 : 0 < rs.length) : fault (flat rs) = none := by
  have := runS_flatU rs 0 h (by omega)
  unfold fault
  rw [faultFrom_runS _ _ _ _ this, if_neg]
  simp only; omega
theorem fnR_ui {t : Thr} (h : t.Ok) : ∀ x ∈ fnR t, UI x := by
  intro x hx
  unfold fnR at hx
  simp only [List.mem_cons, List.not_mem_nil, or_false] at hx
  rcases hx with rfl | rfl | rfl
  · exact ⟨Or.inr (Or.inr rfl), (wvU_nmB t.u0 66 (by decide)).app h.w0.u⟩
  · exact ⟨Or.inr (Or.inr rfl), h.w2.u⟩
  · exact ⟨Or.inr (Or.inr rfl), (wvU_nmB t.u1 67 (by decide)).app h.w1.u⟩
theorem itR_ui {xs : List Itm} (h : ∀ x ∈ xs, x.Ok) : ∀ x ∈ itR xs, UI x := by
  intro x hx
  unfold itR at hx
  rw [List.mem_map] at hx
  obtain ⟨y, hy, rfl⟩ := hx
  refine ⟨by unfold letterOf; cases y.hd
             · exact Or.inl rfl
             · exact Or.inr (Or.inl rfl), (wvU_nm y.a).app ((h y hy).w.u.app (wvU_nm y.b))⟩
theorem srcR_ui {t : Thr} (h : t.Ok) {xs : List Itm} (hx : ∀ x ∈ xs, x.Ok) (front : Bool) : ∀ x ∈ srcR t xs front, UI x := by
  intro x hm
  unfold srcR at hm
  split at hm
  · rcases List.mem_append.1 hm with hm | hm
    · exact fnR_ui h x hm
    · exact itR_ui hx x hm
  · rcases List.mem_append.1 hm with hm | hm
    · exact itR_ui hx x hm
    · exact fnR_ui h x hm
theorem fnR_len {t : Thr} (h : t.Ok) : (flat (fnR t)).length ≤ 33 := by
  have := h.l0; have := h.l1; have := h.l2
  have n0 : ∀ u c, (nmB u c).length ≤ 1 := fun u c => by unfold nmB; cases u <;> simp
  have := n0 t.u0 66; have := n0 t.u1 67
  simp only [fnR, flat, Thr.f0, Thr.f1, Thr.f2, List.length_append, List.length_cons, List.length_nil]
  omega
theorem itR_len {xs : List Itm} (h : ∀ x ∈ xs, x.Ok) : (flat (itR xs)).length ≤ 21 * xs.length := by
  induction xs with
  | nil => simp [itR, flat]
  | cons x r ih =>
    have e : itR (x :: r) = (letterOf x.hd, x.fold) :: itR r := rfl
    have hi := ih (fun y hy => h y (by simp [hy]))
    have := (h x (by simp)).l; have := nmN_len x.a; have := nmN_len x.b
    rw [e, flat_len]
    simp only [Itm.fold, List.length_append, List.length_cons]
    omega
theorem lay_app (a b : List (UInt8 × List UInt8)) (o : Nat) : lay o (a ++ b) = lay o a ++ lay (o + (flat a).length) b := by
  induction a generalizing o with
  | nil => simp [lay, flat]
  | cons x r ih =>
    simp only [List.cons_append, lay, ih, flat_len]
    rw [show o + x.2.length + 3 + (flat r).length = o + (x.2.length + 3 + (flat r).length) by omega]
theorem low_it (h : Bool) : up (bt (letterOf h)) = false := by unfold letterOf; cases h <;> rfl
theorem fold_it (xs : List Itm) (o : Nat) (F : Nat → Fn) : (lay o (itR xs)).foldl addF F = F := by
  induction xs generalizing o with
  | nil => rfl
  | cons x r ih =>
    have e : itR (x :: r) = (letterOf x.hd, x.fold) :: itR r := rfl
    rw [e]
    simp only [lay, List.foldl_cons]
    rw [addF, if_neg (by simp only [low_it]; decide)]
    exact ih _
theorem u65 : up (bt 65) = true := rfl
theorem u66 : up (bt 66) = true := rfl
theorem u67 : up (bt 67) = true := rfl
theorem fold_fn (t : Thr) (o : Nat) : (lay o (fnR t)).foldl addF (fun _ => fn0) = t.fn false false false := by
  simp only [fnR, lay, List.foldl_cons, List.foldl_nil]
  unfold addF
  simp only [u65, u66, u67, if_true]
  funext j
  have e0 : ((bt 65 : Int) - 65).toNat = 0 := rfl
  have e1 : ((bt 66 : Int) - 65).toNat = 1 := rfl
  have e2 : ((bt 67 : Int) - 65).toNat = 2 := rfl
  simp only [e0, e1, e2]
  unfold Thr.fn
  by_cases h0 : j = 0
  · subst h0; rfl
  by_cases h1 : j = 1
  · subst h1; rfl
  by_cases h2 : j = 2
  · subst h2; rfl
  · simp [h0, h1, h2]
theorem fns_src (t : Thr) (xs : List Itm) (front : Bool) : (lay 0 (srcR t xs front)).foldl addF (fun _ => fn0) = t.fn false false false := by
  unfold srcR
  split
  · rw [lay_app, List.foldl_append, fold_fn, fold_it]
  · rw [lay_app, List.foldl_append, fold_it, fold_fn]
theorem fn_there (t : Thr) (a b c : Bool) {d : UInt8} (h : d = 65 ∨ d = 66 ∨ d = 67) : (t.fn a b c (bt d - 65).toNat).there = true := by
  rcases h with rfl | rfl | rfl <;> rfl
theorem unknown_u (t : Thr) (x y z : Bool) (b : List UInt8) (h : WvU b) : unknown (t.fn x y z) b = none := by
  unfold unknown
  apply first_no
  intro j hj
  have e : at_ b j = bt b[j] := by simp only [at_, bt, List.getElem?_eq_getElem hj, Option.getD_some]
  unfold unkP
  rw [e]
  cases hu : up (bt b[j])
  · rfl
  · rw [fn_there t x y z (h.nm _ (List.getElem_mem hj) hu)]; rfl
theorem names_it (t : Thr) {xs : List Itm} (h : ∀ x ∈ xs, x.Ok) (o : Nat) (rest : List Part) (seen : Nat → Bool) : namesFrom (t.fn false false false) (lay o (itR xs) ++ rest) seen = namesFrom (t.fn false false false) rest seen := by
  induction xs generalizing o with
  | nil => rfl
  | cons x r ih =>
    have e : itR (x :: r) = (letterOf x.hd, x.fold) :: itR r := rfl
    have hx := (itR_ui h) (letterOf x.hd, x.fold) (by rw [e]; simp)
    rw [e]
    simp only [lay, List.cons_append, namesFrom, low_it, Bool.false_eq_true, false_and, if_false]
    rw [unknown_u t _ _ _ _ hx.2]
    exact ih (fun y hy => h y (by simp [hy])) _
theorem names_fn {t : Thr} (h : t.Ok) (o : Nat) (rest : List Part) : ∃ seen, namesFrom (t.fn false false false) (lay o (fnR t) ++ rest) (fun _ => false) = namesFrom (t.fn false false false) rest seen := by
  have u0 := unknown_u t false false false _ (fnR_ui h (65, t.f0) (by simp [fnR])).2
  have u2 := unknown_u t false false false _ (fnR_ui h (67, t.f2) (by simp [fnR])).2
  have u1 := unknown_u t false false false _ (fnR_ui h (66, t.f1) (by simp [fnR])).2
  simp only [fnR, lay, List.cons_append, List.nil_append, namesFrom]
  rw [if_neg (by simp), u0]
  simp only
  rw [if_neg (by rintro ⟨_, h2⟩; exact absurd h2 Bool.false_ne_true), u2]
  simp only
  rw [if_neg (by rintro ⟨_, h2⟩; exact absurd h2 Bool.false_ne_true), u1]
  exact ⟨_, rfl⟩
theorem names_src {t : Thr} (h : t.Ok) {xs : List Itm} (hx : ∀ x ∈ xs, x.Ok) (front : Bool) : namesFrom (t.fn false false false) (lay 0 (srcR t xs front)) (fun _ => false) = none := by
  unfold srcR
  split
  · rw [lay_app]
    obtain ⟨seen, e⟩ := names_fn h 0 (lay (0 + (flat (fnR t)).length) (itR xs))
    rw [e]
    have := names_it t hx (0 + (flat (fnR t)).length) [] seen
    rw [List.append_nil] at this
    rw [this]; rfl
  · rw [lay_app, names_it t hx]
    obtain ⟨seen, e⟩ := names_fn h (0 + (flat (itR xs)).length) []
    rw [List.append_nil] at e
    rw [e]; rfl
theorem tx_fn (t : Thr) (a : Nat) : exp (t.fn true true true) (nmN a) = t.tx a := by
  unfold nmN Thr.tx
  split
  · show expC (t.fn true true true) 65 ++ [] = t.p0
    rw [List.append_nil]; rfl
  split
  · show expC (t.fn true true true) 66 ++ [] = t.p1
    rw [List.append_nil]; rfl
  split
  · show expC (t.fn true true true) 67 ++ [] = t.p2
    rw [List.append_nil]; rfl
  · rfl
theorem unfold_it {t : Thr} (h : t.Ok) {x : Itm} (hx : x.Ok) : unfold (t.fn true true true) x.fold = some (x.plain t) := by
  have he : exp (t.fn true true true) x.fold = x.plain t := by
    unfold Itm.fold Itm.plain
    rw [exp_app, exp_app, exp_okB _ hx.w.ok, tx_fn, tx_fn]
  have hl : (x.plain t).length ≤ 300 := by
    have := tx_len h x.a; have := tx_len h x.b; have := hx.l
    simp only [Itm.plain, List.length_append]; omega
  have := unf_fit (t.fn true true true) x.fold [] (fun d hd hu => by
    have hn := ((wvU_nm x.a).app (hx.w.u.app (wvU_nm x.b))).nm d hd hu
    rcases hn with rfl | rfl | rfl <;> rfl) (by rw [he]; simpa using hl)
  rw [he, List.nil_append] at this
  exact this
theorem items_it {t : Thr} (h : t.Ok) {xs : List Itm} (hx : ∀ x ∈ xs, x.Ok) (o : Nat) (rest : List Part) (acc : List It) : itemsFrom (t.fn true true true) (lay o (itR xs) ++ rest) acc = itemsFrom (t.fn true true true) rest (acc ++ itsR t xs) := by
  induction xs generalizing o acc with
  | nil => simp [itR, lay, itsR]
  | cons x r ih =>
    have e : itR (x :: r) = (letterOf x.hd, x.fold) :: itR r := rfl
    rw [e]
    simp only [lay, List.cons_append, itemsFrom, low_it, Bool.false_eq_true, if_false]
    rw [unfold_it h (hx x (by simp))]
    simp only
    rw [ih (fun y hy => hx y (by simp [hy]))]
    have eh : (bt (letterOf x.hd) == 104) = x.hd := by unfold letterOf; cases x.hd <;> rfl
    simp [itsR, eh]
theorem items_fn (t : Thr) (o : Nat) (rest : List Part) (acc : List It) : itemsFrom (t.fn true true true) (lay o (fnR t) ++ rest) acc = itemsFrom (t.fn true true true) rest acc := by
  simp only [fnR, lay, List.cons_append, List.nil_append, itemsFrom]
  simp only [u65, u66, u67, if_true]
theorem items_src {t : Thr} (h : t.Ok) {xs : List Itm} (hx : ∀ x ∈ xs, x.Ok) (front : Bool) : itemsFrom (t.fn true true true) (lay 0 (srcR t xs front)) [] = .ok (itsR t xs) := by
  unfold srcR
  split
  · rw [lay_app, items_fn]
    have := items_it h hx (0 + (flat (fnR t)).length) [] []
    rw [List.append_nil] at this
    rw [this]; rfl
  · rw [lay_app, items_it h hx]
    have := items_fn t (0 + (flat (itR xs)).length) [] ([] ++ itsR t xs)
    rw [List.append_nil] at this
    rw [this]; rfl
/-- A source with three functions, read. -/
theorem readP_inl {t : Thr} (h : t.Ok) {xs : List Itm} (hx : ∀ x ∈ xs, x.Ok) (h3 : xs.length ≤ 3) (front : Bool) : readP (flat (srcR t xs front)) = .ok (itsR t xs) ∧ (flat (srcR t xs front)).length ≤ 240 := by
  have hui := srcR_ui h hx front
  have hl : (flat (srcR t xs front)).length ≤ 240 := by
    have := fnR_len h; have := itR_len hx
    unfold srcR
    split <;> rw [flat_app, List.length_append] <;> omega
  have hn : (srcR t xs front).length = 3 + xs.length := by
    unfold srcR
    split <;> simp [fnR, itR] <;> omega
  have hs := split_of (srcR t xs front) (fun x hm => (hui x hm).raw)
  refine ⟨readP_ok (by omega) (fault_flatU _ hui (by omega) (by omega)) ?_ ?_ ?_, hl⟩
  · rw [hs]; simp only
    rw [fns_src]; exact names_src h hx front
  · rw [hs]; simp only
    rw [fns_src, Thr.rounds h]
    unfold left
    rw [first_no]; · rfl
    intro j hj
    unfold leftP Thr.fn
    repeat' split
    all_goals rfl
  · rw [hs]; simp only
    rw [fns_src, Thr.rounds h]
    unfold items
    exact items_src h hx front
end Wd
end Go.Proofs.Ytecmfdkhcffpmab
