/- The program's answer to Check is the document's, whatever the text. -/
import Derived.Test.YtecmfdkhcffpmaaSame8
namespace Go.Proofs.Ytecmfdkhcffpmaa
set_option linter.unusedSimpArgs false
set_option linter.unusedVariables false
namespace Wd
theorem startsTo_stay (l : List UInt8) (k n : Nat) (h : ∀ i, k ≤ i → i < k + n → startP l i = false) : startsTo l (k + n) = startsTo l k := by
  induction n with
  | zero => rfl
  | succ n ih =>
    rw [show k + (n + 1) = (k + n) + 1 from rfl, startsTo_no (h (k + n) (by omega) (by omega)), ih (fun i h1 h2 => h i h1 (by omega))]
/-- The threads and handlers among the parts. -/
def tops (ps : List Part) : List Part := ps.filter (fun p => !up p.letter)
theorem starts_flat (rs0 : List (UInt8 × List UInt8)) (h0 : ∀ x ∈ rs0, okRaw x) (rs : List (UInt8 × List UInt8)) (pre : List UInt8) (hl : flat rs0 = pre ++ flat rs) (qs : List Part) (hPS : lay 0 rs0 = qs ++ lay pre.length rs) (h : ∀ x ∈ rs, okRaw x) :
    starts (flat rs0) = startsTo (flat rs0) pre.length ++ (tops (lay pre.length rs)).map (·.pos) := by
  induction rs generalizing pre qs with
  | nil =>
    have e : (flat rs0).length = pre.length := by rw [hl]; simp [flat]
    simp [starts, e, lay, tops]
  | cons x r ih =>
    obtain ⟨hx1, hx2⟩ := h x (by simp)
    have hlay : lay pre.length (x :: r) = ⟨bt x.1, pre.length, x.2⟩ :: lay (pre.length + x.2.length + 3) r := rfl
    have hsort := lay_sorted rs0 0
    rw [hPS] at hsort
    have hq_lt : ∀ q ∈ qs, q.pos < pre.length := by
      intro q hq
      rw [List.pairwise_append] at hsort
      exact hsort.2.2 q hq ⟨bt x.1, pre.length, x.2⟩ (by rw [hlay]; simp)
    have hheads : ∀ i, heads (flat rs0) i = true ↔ ∃ p ∈ lay 0 rs0, p.pos = i := fun i => heads_flat rs0 [] h0 i (Nat.zero_le _)
    have hin : (⟨bt x.1, pre.length, x.2⟩ : Part) ∈ lay 0 rs0 := by rw [hPS, hlay]; simp
    have hat := (lay_facts rs0 [] h0 _ hin).1
    simp only [List.nil_append] at hat
    have hbut : ∀ i, pre.length + 1 ≤ i → i < pre.length + 1 + (x.2.length + 2) → startP (flat rs0) i = false := by
      intro i h1 h2
      have : heads (flat rs0) i = false := by
        rw [← Bool.not_eq_true, hheads]
        rintro ⟨p, hp, e2⟩
        rw [hPS, List.mem_append] at hp
        rcases hp with hp | hp
        · have := hq_lt p hp; omega
        · rw [hlay] at hp
          simp only [List.mem_cons] at hp
          rcases hp with hp | hp
          · subst hp; simp only at e2; omega
          · have := lay_ge _ _ p hp; omega
      simp [startP, this]
    have hl2 : flat rs0 = (pre ++ (x.1 :: 123 :: (x.2 ++ [125]))) ++ flat r := by rw [hl, pre_next]
    have := ih (pre ++ (x.1 :: 123 :: (x.2 ++ [125]))) hl2 (qs ++ [⟨bt x.1, pre.length, x.2⟩]) (by rw [hPS, hlay, pre_len]; simp) (fun y hy => h y (by simp [hy]))
    rw [pre_len, show pre.length + x.2.length + 3 = pre.length + 1 + (x.2.length + 2) from by omega, startsTo_stay _ _ _ hbut] at this
    rw [this, hlay]
    have hst : startP (flat rs0) pre.length = !up (bt x.1) := by
      have hh : heads (flat rs0) pre.length = true := (hheads _).2 ⟨_, hin, rfl⟩
      simp only [startP, hh, hat, Bool.true_and]
      rcases hx1 with e | e | e
      · rw [e]; decide
      · rw [e]; decide
      · rw [e]
        have := (up_iff _).1 e
        simp; omega
    cases hu : up (bt x.1) with
    | true =>
      rw [startsTo_no (by rw [hst, hu]; rfl)]
      simp [tops, hu, show pre.length + 1 + (x.2.length + 2) = pre.length + x.2.length + 3 from by omega]
    | false =>
      rw [startsTo_yes (by rw [hst, hu]; rfl)]
      simp [tops, hu, show pre.length + 1 + (x.2.length + 2) = pre.length + x.2.length + 3 from by omega]
theorem starts_of (rs : List (UInt8 × List UInt8)) (h : ∀ x ∈ rs, okRaw x) : starts (flat rs) = (tops (lay 0 rs)).map (·.pos) := by
  have := starts_flat rs h rs [] rfl [] rfl h
  simpa [startsTo] using this
theorem itemsFrom_tops (G : Nat → Fn) (ps : List Part) (acc : List It) : itemsFrom G ps acc = itemsFrom G (tops ps) acc := by
  induction ps generalizing acc with
  | nil => rfl
  | cons p r ih =>
    cases hu : up p.letter with
    | true =>
      have e : tops (p :: r) = tops r := by simp [tops, hu]
      rw [e, itemsFrom, if_pos hu, ih]
    | false =>
      have e : tops (p :: r) = p :: tops r := by simp [tops, hu]
      have hne : ¬ up p.letter = true := by rw [hu]; simp
      rw [e, itemsFrom, itemsFrom, if_neg hne, if_neg hne]
      split
      · exact ih _
      · rfl
/-- The first item that does not fit. -/
theorem itemsFrom_big {F G : Nat → Fn} {V : Nat → Int} (hF : Fits F V G) (hV : ∀ j, 0 ≤ V j) (all dn ts : List Part) (hall : all = dn ++ ts) (hup : ∀ p ∈ ts, up p.letter = false) (hdone : ∀ p ∈ ts, ∀ c ∈ p.body, up (bt c) = true → (G (bt c - 65).toNat).done = true) (acc : List It) (hacc : acc.length = dn.length)
    (P : Nat → Bool) (hP : ∀ k (hk : k < all.length), P k = decide (300 < size (all[k]).body V)) (hno : ∀ k, k < dn.length → P k = false) :
    (∃ its, itemsFrom G ts acc = .ok its ∧ first P all.length = none) ∨ (∃ n, itemsFrom G ts acc = .error n ∧ first P all.length = some n) := by
  induction ts generalizing dn acc with
  | nil =>
    left
    refine ⟨acc, rfl, first_no ?_⟩
    intro j hj
    apply hno
    rw [hall] at hj
    simpa using hj
  | cons p r ih =>
    have hu := hup p (by simp)
    have hne : ¬ up p.letter = true := by rw [hu]; simp
    have hlt : dn.length < all.length := by rw [hall]; simp
    have hget : all[dn.length] = p := by simp [hall]
    have hPd := hP dn.length hlt
    rw [hget] at hPd
    obtain ⟨u1, u2⟩ := unf_size hF hV p.body [] (hdone p (by simp)) (by simp)
    simp only [List.length_nil, Int.natCast_zero] at u1 u2
    simp only [itemsFrom, if_neg hne]
    by_cases hv : size p.body V ≤ 300
    · obtain ⟨x, hx, _⟩ := u1 hv
      unfold unfold
      rw [hx]
      simp only
      have := ih (dn ++ [p]) (by rw [hall]; simp) (fun q hq => hup q (by simp [hq])) (fun q hq => hdone q (by simp [hq])) (acc ++ [⟨p.letter == 104, x⟩]) (by simp [hacc]) ?_
      · exact this
      · intro k hk
        simp at hk
        by_cases e : k = dn.length
        · rw [e, hPd]; simp; omega
        · exact hno k (by omega)
    · right
      unfold unfold
      rw [u2 (by unfold size at hv; omega)]
      refine ⟨acc.length, rfl, ?_⟩
      rw [hacc]
      exact first_yes hlt (by rw [hPd]; simp; omega) hno
theorem big_same (rs : List (UInt8 × List UInt8)) (h : ∀ x ∈ rs, okRaw x) (hn : misnamed (flat rs) = none) (hr : round (flat rs) = false) :
    (∃ its, items (roundsTo (split (flat rs)).F 8) (split (flat rs)).ps = .ok its ∧ bigR (flat rs) = none) ∨ (∃ n, items (roundsTo (split (flat rs)).F 8) (split (flat rs)).ps = .error n ∧ bigR (flat rs) = some n) := by
  obtain ⟨hI, hth⟩ := init_of rs h hn
  have hirr : ∀ i, i < 8 → reach (callB (fnsOf rs)) i i = false := by
    intro i hi
    cases hq : reach (callB (fnsOf rs)) i i with
    | false => rfl
    | true =>
      exfalso
      have : round (flat rs) = true := by
        rw [round, calls_same rs h hn, first_iff]; exact ⟨i, hi, hq⟩
      rw [this] at hr; cases hr
  have hV : ∀ j, 0 ≤ sizesN (flat rs) 8 j := fun j => (sizesN_bd _ 8 j).1
  have hF := roundsTo_fits hI hV (sizes_fix rs h hn hirr) 8
  rw [split_of rs h]
  show (∃ its, items (roundsTo (fnsOf rs) 8) (lay 0 rs) = .ok its ∧ _) ∨ (∃ n, items (roundsTo (fnsOf rs) 8) (lay 0 rs) = .error n ∧ _)
  unfold items
  rw [itemsFrom_tops]
  have hst := starts_of rs h
  have hfacts := lay_facts rs [] h
  simp only [List.nil_append, List.length_nil] at hfacts
  have hlen : (starts (flat rs)).length = (tops (lay 0 rs)).length := by rw [hst]; simp
  unfold bigR
  rw [hlen]
  refine itemsFrom_big hF hV (tops (lay 0 rs)) [] (tops (lay 0 rs)) rfl ?_ ?_ [] rfl _ ?_ (by simp)
  · intro p hp; simp [tops] at hp; exact hp.2
  · intro p hp c hc hu
    simp [tops] at hp
    have hu' := (up_iff _).1 hu
    exact roundsTo_done hI hirr 8 _ (by omega) (hth p hp.1 c hc hu) (count_bd hirr (by omega))
  · intro k hk
    have e : (starts (flat rs)).getD k 0 = ((tops (lay 0 rs))[k]).pos := by rw [hst]; simp [hk]
    have hm : (tops (lay 0 rs))[k] ∈ lay 0 rs := by
      have := List.getElem_mem hk
      simp only [tops, List.mem_filter] at this
      exact this.1
    have e2 := (hfacts _ hm).2.1
    rw [e, e2]
theorem check_same (l : List UInt8) : checkP l = checkR l := by
  unfold checkP
  by_cases hbig : 240 < l.length
  · rw [readP_long hbig, checkR_long hbig]
  · cases hf : fault l with
    | some i => rw [readP_text hbig hf, checkR_text hbig (by rw [← fault_same]; exact hf)]
    | none =>
      have hp : place l = none := by rw [← fault_same]; exact hf
      obtain ⟨rs, rfl, h⟩ := shape_of hf
      have hns := names_same rs h
      cases hn : misnamed (flat rs) with
      | some i =>
        rw [hn] at hns
        rw [readP_name hbig hf hns, checkR_name hbig hp hn]
      | none =>
        rw [hn] at hns
        have hrs := round_same rs h hn
        cases hr : round (flat rs) with
        | true =>
          rw [hr] at hrs
          rw [readP_round hbig hf hns hrs, checkR_round hbig hp hn hr]
        | false =>
          rw [hr] at hrs
          rcases big_same rs h hn hr with ⟨its, h1, h2⟩ | ⟨n, h1, h2⟩
          · rw [readP_ok hbig hf hns hrs h1, checkR_ok hbig hp hn hr h2]
          · rw [readP_big hbig hf hns hrs h1, checkR_big hbig hp hn hr h2]
end Wd
end Go.Proofs.Ytecmfdkhcffpmaa
