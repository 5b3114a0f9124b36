/- MacD, MacE. -/
import Derived.Test.YtecmfdkhcffpmaaB13
import Derived.Deep.QuietTactic
/- Contracts of the document's machine: what stands at a frame's place; who holds a lock. -/
namespace Go.Proofs.Ytecmfdkhcffpmaa
open Go.RowKit
set_option linter.unusedSimpArgs false
set_option linter.unusedVariables false
set_option maxHeartbeats 800000
open Mc

theorem DM.bodyAt {w : World} {N b : Nat} {A : Ad} {its : List Wd.It} {n : Nat} {S : Ma} (h : DM w N b A its n S) (i : Nat) (hi : i < its.length) : ∃ g, A.ai = some ⟨g, 0, none⟩ ∧ w.cell? ⟨g, i * 2 + 1, none⟩ = some (.string (Wd.mkS (bodyOf its i))) ∧ w.cell? ⟨g, i * 2, none⟩ = some (.bool (isH its i)) := by
  obtain ⟨g, h1, h2, h3⟩ := h.items (by omega)
  refine ⟨g, h1, ?_, ?_⟩
  · rw [h2.cell (i * 2 + 1) (by omega)]; simp [itF]; rw [show (i * 2 + 1) / 2 = i by omega]
  · rw [h2.cell (i * 2) (by omega)]; simp [itF]

set_option maxRecDepth 100000 in
theorem stands_any (w : World) (N b : Nat) (A : Ad) (its : List Wd.It) (n : Nat) (S : Ma) (f : Fr) (h : DM w N b A its n S) (hits : ItsOK its) (hf : f.there = true → f.item < its.length ∧ f.pos ≤ 20000) :
    Calls Try.prog 145 #[.pointer (some ⟨b, 0, none⟩), .agg #[.bool f.there, .int .i64 (f.item : Int), .int .i64 (f.pos : Int), .int .i64 (f.held : Int)]] w fun e w' => e = .returned (.int .u8 (stands its f)) ∧ Below w.heap.size w w' := by
  cases ht : f.there
  · have e : stands its f = 95 := by simp [stands, ht]
    rw [e]
    clear e h hf hits
    go_enter Try.func145, Try.ntmps145
    go_wp2
    go_ret
    exact ⟨rfl, (Below.refl _ _).alloc (Nat.le_refl _) _⟩
  · have e : stands its f = atB (Wd.mkS (bodyOf its f.item)).data.toList f.pos := by simp [stands, ht, Wd.mkS_list]
    rw [e]
    obtain ⟨hi, hpos⟩ := hf ht
    obtain ⟨g, hg, q1, q2⟩ := h.bodyAt f.item hi
    have r0 : ∀ o, (w.alloc o).cell? ⟨b, 0, none⟩ = some (.slice A.ai its.length A.ci) := fun o => (h.alloc o).root.cell 0 (by omega)
    rw [hg] at r0
    have q1' : ∀ o, (w.alloc o).cell? ⟨g, f.item * 2 + 1, none⟩ = some (.string (Wd.mkS (bodyOf its f.item))) := by
      intro o
      obtain ⟨g', hg', q', _⟩ := (h.alloc o).bodyAt f.item hi
      rw [hg] at hg'; cases hg'; exact q'
    have hs : (Wd.mkS (bodyOf its f.item)).size ≤ 10000 := by rw [Wd.mkS_size]; exact hits.body _ hi
    have HA := hide (fun w => at_any (Wd.mkS (bodyOf its f.item)) f.pos w hs hpos)
    have CA := h.caps
    unfold maxLen at CA
    clear e h hf hits q1 q2 hg hs
    generalize f.item = fi at *
    generalize f.pos = fp at *
    generalize f.held = fh at *
    generalize Wd.mkS (bodyOf its fi) = sb at *
    go_enter Try.func145, Try.ntmps145
    go_wp2_with fail
    go_quiet (first | (go_at_call 93; exact Calls.quiet_of_same (HA.out _)))
    go_wp2
    go_ret
    exact ⟨rfl, below_drewN ((Below.refl _ _).alloc (Nat.le_refl _) _) _⟩

theorem holderFrom_step (S : Ma) (l n k : Nat) (hk : k < n) : holderFrom S l k (n - k) = if cpHolds (S.cp k) l = true then some k else holderFrom S l (k + 1) (n - (k + 1)) := by
  rw [show n - k = (n - (k + 1)) + 1 by omega]; rfl
theorem holderFrom_lt (S : Ma) (l : Nat) : ∀ m k d, holderFrom S l k m = some d → k ≤ d ∧ d < k + m
  | 0, k, d, h => by simp [holderFrom] at h
  | m + 1, k, d, h => by
    unfold holderFrom at h
    split at h
    · cases h; omega
    · have := holderFrom_lt S l m (k + 1) d h; omega
theorem holder_lt {S : Ma} {n l d : Nat} (h : holder S n l = some d) : d < n := by
  have := holderFrom_lt S l n 0 d h; omega

set_option maxRecDepth 100000 in
theorem holder_any (w : World) (N b : Nat) (A : Ad) (its : List Wd.It) (n : Nat) (S : Ma) (l : Nat) (h : DM w N b A its n S) (hi : Inv its n S) (hn : n ≤ 3) (hl : l ≤ 20) :
    Calls Try.prog 143 #[.pointer (some ⟨b, 0, none⟩), .int .i64 l] w fun e w' => e = .returned (.int .i64 (toI (holder S n l))) ∧ w' = w := by
  have r1 : w.cell? ⟨b, 1, none⟩ = some (.slice (some ⟨A.g1, 0, none⟩) n A.c1) := h.root.cell 1 (by omega)
  have CA := h.caps
  unfold maxLen at CA
  have HM := hide h
  have HI := hide hi
  clear h hi
  go_enter Try.func143, Try.ntmps143
  go_wp2
  go_loop [5] (fun a => ∃ k : Nat, k ≤ n ∧ a = .int .i64 k ∧ holder S n l = holderFrom S l k (n - k)) (fun a => n - (intOf a).toNat)
  case atStart => exact ⟨0, by omega, rfl, rfl⟩
  case round =>
    obtain ⟨k, hk, rfl, hp⟩ := hrel
    have HP := hide hp
    clear hp
    by_cases hlt : k < n
    · have q3 : w.cell? ⟨A.g1, k * 9 + 3, none⟩ = some (.int .i64 ((S.cp k).t.held : Int)) := HM.out.cpAt k 3 hlt (by omega)
      have q7 : w.cell? ⟨A.g1, k * 9 + 7, none⟩ = some (.int .i64 ((S.cp k).h.held : Int)) := HM.out.cpAt k 7 hlt (by omega)
      have ht := (HI.out.t k hlt).held
      have hh := (HI.out.h k hlt).held
      have HS := hide (holderFrom_step S l n k hlt)
      have HC : Hid (cpHolds (S.cp k) l = (holds (S.cp k).t.held l || holds (S.cp k).h.held l)) := hide rfl
      have A1 := hide (holds_any (S.cp k).t.held l w (by omega) hl)
      have A2 := hide (holds_any (S.cp k).h.held l w (by omega) hl)
      generalize (S.cp k).t.held = ht1 at *
      generalize (S.cp k).h.held = hh1 at *
      cases e1 : holds ht1 l
      · cases e2 : holds hh1 l
        · rw [e1] at A1; rw [e2] at A2
          go_wp2_with (first | (go_at_call_of 95 ht1; refine A1.out.mono ?_; rintro e w' ⟨rfl, rfl⟩) | (go_at_call_of 95 hh1; refine A2.out.mono ?_; rintro e w' ⟨rfl, rfl⟩))
          go_round
          case rel => exact ⟨k + 1, by omega, by go_num, by rw [HP.out, HS.out, if_neg (by rw [HC.out, e1, e2]; simp)]⟩
          case measure => simp [intOf] <;> omega
        · rw [e1] at A1; rw [e2] at A2
          go_wp2_with (first | (go_at_call_of 95 ht1; refine A1.out.mono ?_; rintro e w' ⟨rfl, rfl⟩) | (go_at_call_of 95 hh1; refine A2.out.mono ?_; rintro e w' ⟨rfl, rfl⟩))
          go_ret
          exact ⟨ret_int (by rw [HP.out, HS.out, if_pos (by rw [HC.out, e1, e2]; rfl)]; rfl), rfl⟩
      · cases e2 : holds hh1 l
        · rw [e1] at A1; rw [e2] at A2
          go_wp2_with (first | (go_at_call_of 95 ht1; refine A1.out.mono ?_; rintro e w' ⟨rfl, rfl⟩) | (go_at_call_of 95 hh1; refine A2.out.mono ?_; rintro e w' ⟨rfl, rfl⟩))
          go_ret
          exact ⟨ret_int (by rw [HP.out, HS.out, if_pos (by rw [HC.out, e1, e2]; rfl)]; rfl), rfl⟩
        · rw [e1] at A1; rw [e2] at A2
          go_wp2_with (first | (go_at_call_of 95 ht1; refine A1.out.mono ?_; rintro e w' ⟨rfl, rfl⟩) | (go_at_call_of 95 hh1; refine A2.out.mono ?_; rintro e w' ⟨rfl, rfl⟩))
          go_ret
          exact ⟨ret_int (by rw [HP.out, HS.out, if_pos (by rw [HC.out, e1, e2]; rfl)]; rfl), rfl⟩
    · go_wp2
      go_ret
      exact ⟨ret_int (by rw [HP.out, show n - k = 0 by omega]; rfl), rfl⟩

theorem wantsF_some {its : List Wd.It} {f : Fr} (h : stands its f = 43) : wantsF its f = some (num (bodyOf its f.item) f.pos).toNat := by simp [wantsF, h]
theorem wantsF_none {its : List Wd.It} {f : Fr} (h : stands its f ≠ 43) : wantsF its f = none := by simp [wantsF, h]
theorem stands_there {its : List Wd.It} {f : Fr} {c : Int} (h : stands its f = c) (hc : c ≠ 95) : f.there = true := by
  cases ht : f.there
  · simp [stands, ht] at h; exact absurd h.symm hc
  · rfl
theorem works_ok {its : List Wd.It} {n : Nat} {S : Ma} (hi : Inv its n S) (c : Nat) (hc : c < n) : (works S c).there = true → (works S c).item < its.length ∧ (works S c).pos ≤ (bodyOf its (works S c).item).length + 1 := by
  unfold works
  split
  · intro h; exact ⟨(hi.h c hc).item h, (hi.h c hc).pos h⟩
  · intro h; exact ⟨(hi.t c hc).item h, (hi.t c hc).pos h⟩
/-- The lock at a + is one of six. -/
theorem num_lock {its : List Wd.It} (ho : ItsOK its) {i p : Nat} (hi : i < its.length) (h : atB (bodyOf its i) p = 43 ∨ atB (bodyOf its i) p = 45) : 0 ≤ num (bodyOf its i) p ∧ num (bodyOf its i) p ≤ 5 := by
  have hp : p < (bodyOf its i).length := by
    by_cases e : p < (bodyOf its i).length
    · exact e
    · simp [atB, e] at h
  simp only [atB, hp, if_true] at h
  obtain ⟨h1, h2, h3⟩ := (ho.pair i hi p hp).1 h
  rw [num, if_pos h1, if_pos h2]; omega
theorem num_cell {its : List Wd.It} (ho : ItsOK its) {i p : Nat} (hi : i < its.length) (h : atB (bodyOf its i) p = 114 ∨ atB (bodyOf its i) p = 119) : 0 ≤ num (bodyOf its i) p ∧ num (bodyOf its i) p ≤ 3 := by
  have hp : p < (bodyOf its i).length := by
    by_cases e : p < (bodyOf its i).length
    · exact e
    · simp [atB, e] at h
  simp only [atB, hp, if_true] at h
  obtain ⟨h1, h2, h3⟩ := (ho.pair i hi p hp).2 h
  rw [num, if_pos h1, if_neg (by omega)]; omega
theorem num_ok {its : List Wd.It} (ho : ItsOK its) {i p : Nat} (hi : i < its.length) (h : atB (bodyOf its i) p = 43 ∨ atB (bodyOf its i) p = 45 ∨ atB (bodyOf its i) p = 114 ∨ atB (bodyOf its i) p = 119) : p + 1 < (bodyOf its i).length → 48 ≤ Wd.at_ (bodyOf its i) (p + 1) := by
  intro hl
  have hp : p < (bodyOf its i).length := by omega
  simp only [atB, hp, if_true] at h
  rcases h with h | h | h | h
  · have := (ho.pair i hi p hp).1 (Or.inl h); omega
  · have := (ho.pair i hi p hp).1 (Or.inr h); omega
  · have := (ho.pair i hi p hp).2 (Or.inl h); omega
  · have := (ho.pair i hi p hp).2 (Or.inr h); omega
end Go.Proofs.Ytecmfdkhcffpmaa
/- Contracts of the document's machine: rings of processors that wait. -/
namespace Go.Proofs.Ytecmfdkhcffpmaa
open Go.RowKit
set_option linter.unusedSimpArgs false
set_option linter.unusedVariables false
set_option maxHeartbeats 800000
open Mc

theorem below_go {a b c : World} (h1 : Below a.heap.size a b) (h2 : Below b.heap.size b c) : Below a.heap.size a c := h1.trans (h2.mono h1.size)
theorem below_new {a b : World} (h1 : Below a.heap.size a b) (o : Obj) : Below a.heap.size a (b.alloc o) := h1.alloc h1.size o
def frF (f : Fr) : Nat → Value
  | 0 => .bool f.there
  | 1 => .int .i64 (f.item : Int)
  | 2 => .int .i64 (f.pos : Int)
  | _ => .int .i64 (f.held : Int)
theorem Blk.newFr (w : World) (f : Fr) (t : TypeId) : Blk (w.alloc (.cells #[.bool f.there, .int .i64 (f.item : Int), .int .i64 (f.pos : Int), .int .i64 (f.held : Int)] t)) w.heap.size 4 (frF f) := by
  refine ⟨_, t, heap_alloc_last _ _, fun i hi => ?_⟩
  rcases i with _ | _ | _ | _ | i <;> first | rfl | omega
theorem frA_one (f : Fr) : (#[Value.bool f.there, .int .i64 (f.item : Int), .int .i64 (f.pos : Int), .int .i64 (f.held : Int)]).all (·.oneCell') = true := frV_one f
theorem worksA_any (w : World) (N b : Nat) (A : Ad) (its : List Wd.It) (n : Nat) (S : Ma) (c : Nat) (h : DM w N b A its n S) (hc : c < n) (hn : n ≤ 3) :
    Calls Try.prog 102 #[.pointer (some ⟨b, 0, none⟩), .int .i64 c] w fun e w' => e = .returned (.agg #[.bool (works S c).there, .int .i64 ((works S c).item : Int), .int .i64 ((works S c).pos : Int), .int .i64 ((works S c).held : Int)]) ∧ Below w.heap.size w w' := works_any w N b A its n S c h hc hn

theorem ringFrom_none {its : List Wd.It} {S : Ma} {n c k m l : Nat} (h : holder S n l = none) : ringFrom its S n c k (m + 1) l = false := by
  simp [ringFrom, h]
theorem ringFrom_own {its : List Wd.It} {S : Ma} {n c k m l : Nat} (h : holder S n l = some c) : ringFrom its S n c k (m + 1) l = decide (0 < k) := by
  simp [ringFrom, h]
theorem ringFrom_not {its : List Wd.It} {S : Ma} {n c k m l d : Nat} (h : holder S n l = some d) (hd : d ≠ c) (hw : stands its (works S d) ≠ 43) : ringFrom its S n c k (m + 1) l = false := by
  simp [ringFrom, h, hd, wantsF_none hw]
theorem ringFrom_go {its : List Wd.It} {S : Ma} {n c k m l d : Nat} (h : holder S n l = some d) (hd : d ≠ c) (hw : stands its (works S d) = 43) : ringFrom its S n c k (m + 1) l = ringFrom its S n c (k + 1) m (num (bodyOf its (works S d).item) (works S d).pos).toNat := by
  simp [ringFrom, h, hd, wantsF_some hw]

theorem numberB_any (its : List Wd.It) (ho : ItsOK its) (i p : Nat) (w : World) (hi : i < its.length) (hp : p ≤ 20000) (h : atB (bodyOf its i) p = 43 ∨ atB (bodyOf its i) p = 45 ∨ atB (bodyOf its i) p = 114 ∨ atB (bodyOf its i) p = 119) :
    Calls Try.prog 94 #[.string (Wd.mkS (bodyOf its i)), .int .i64 p] w fun e w' => e = .returned (.int .i64 (num (bodyOf its i) p)) ∧ w' = w := by
  have := number_any (Wd.mkS (bodyOf its i)) p w (by rw [Wd.mkS_size]; exact ho.body i hi) hp (by rw [Wd.mkS_size, Wd.mkS_list]; exact num_ok ho hi h)
  rwa [Wd.mkS_list] at this

set_option maxRecDepth 100000 in
theorem ring_any (w : World) (N b : Nat) (A : Ad) (its : List Wd.It) (n : Nat) (S : Ma) (c l : Nat) (h : DM w N b A its n S) (ho : ItsOK its) (hi : Inv its n S) (hn : n ≤ 3) (hc : c < n) (hl : l ≤ 5) :
    Calls Try.prog 144 #[.pointer (some ⟨b, 0, none⟩), .int .i64 c, .int .i64 l] w fun e w' => e = .returned (.bool (ring its S n c l)) ∧ Below w.heap.size w w' := by
  have CA := h.caps
  unfold maxLen at CA
  have HM := hide h
  have HI := hide hi
  have HO := hide ho
  clear h hi ho
  have r1 : w.cell? ⟨b, 1, none⟩ = some (.slice (some ⟨A.g1, 0, none⟩) n A.c1) := HM.out.root.cell 1 (by omega)
  go_enter Try.func144, Try.ntmps144
  go_wp2
  clear r1
  go_loopw [2, 7] (fun a b wr => ∃ (k l' : Nat), k ≤ n + 1 ∧ l' ≤ 5 ∧ a = .int .i64 l' ∧ b = .int .i64 k ∧ ring its S n c l = ringFrom its S n c k (n + 1 - k) l' ∧ Below w.heap.size w wr) (fun _ b _ => n + 1 - (intOf b).toNat)
  case atStart => exact ⟨0, l, by omega, hl, rfl, rfl, rfl, Below.refl _ _⟩
  case round =>
    obtain ⟨k, l', hk, hl', rfl, rfl, hp, hbe⟩ := hrel
    have HP := hide hp
    have HB := hide hbe
    clear hp hbe
    have HMr := hide (HM.out.below HB.out)
    have r1 : wr.cell? ⟨b, 1, none⟩ = some (.slice (some ⟨A.g1, 0, none⟩) n A.c1) := HMr.out.root.cell 1 (by omega)
    by_cases hlt : k ≤ n
    · rw [show n + 1 - k = (n - k) + 1 by omega] at HP
      have A1 := hide (holder_any wr N b A its n S l' HMr.out HI.out hn (by omega))
      cases ed : holder S n l' with
      | none =>
        have HR := hide (ringFrom_none (its := its) (c := c) (k := k) (m := n - k) ed)
        rw [ed] at A1
        have A1' : Hid (Calls Try.prog 143 #[.pointer (some ⟨b, 0, none⟩), .int .i64 l'] wr fun e w' => e = .returned (.int .i64 (-1)) ∧ w' = wr) := A1
        clear A1 ed
        have t1 : ((-1 : Int) == (c : Int)) = false := by simp
        go_wp2_with (first | (go_at_call 143; refine A1'.out.mono ?_; rintro e w' ⟨rfl, rfl⟩))
        go_ret
        exact ⟨ret_bool (by rw [HP.out, HR.out]), HB.out⟩
      | some d =>
        rw [ed] at A1
        have A1' : Hid (Calls Try.prog 143 #[.pointer (some ⟨b, 0, none⟩), .int .i64 l'] wr fun e w' => e = .returned (.int .i64 (d : Int)) ∧ w' = wr) := A1
        have hdn := holder_lt ed
        have ED := hide ed
        clear A1 ed
        by_cases hdc : d = c
        · subst hdc
          have HR := hide (ringFrom_own (its := its) (c := d) (k := k) (m := n - k) ED.out)
          have t1 : ((d : Int) == (d : Int)) = true := by simp
          go_wp2_with (first | (go_at_call 143; refine A1'.out.mono ?_; rintro e w' ⟨rfl, rfl⟩))
          go_ret
          exact ⟨ret_bool (by rw [HP.out, HR.out]), HB.out⟩
        · have t1 : ((d : Int) == (c : Int)) = false := by simp; omega
          have W1 := hide (worksA_any wr N b A its n S d HMr.out hdn hn)
          have hok := hide (works_ok HI.out d hdn)
          have NO := hide (fun h => ringFrom_not (its := its) (c := c) (k := k) (m := n - k) ED.out hdc h)
          have GO := hide (fun h => ringFrom_go (its := its) (c := c) (k := k) (m := n - k) ED.out hdc h)
          generalize works S d = f at *
          have hf : Hid (f.there = true → f.item < its.length ∧ f.pos ≤ 20000) := hide fun h => ⟨(hok.out h).1, by have := hok.out h; have := HO.out.body _ this.1; omega⟩
          by_cases e43 : stands its f = 43
          · have t2 : (stands its f != 43) = false := by simp [e43]
            have HR := hide (GO.out e43)
            have hth := stands_there e43 (by decide)
            have hat : atB (bodyOf its f.item) f.pos = 43 := by simpa [stands, hth] using e43
            have hit := (hf.out hth).1
            have hpo := (hf.out hth).2
            have hnl := num_lock HO.out hit (Or.inl hat)
            have A3 := hide (fun w => numberB_any its HO.out f.item f.pos w hit hpo (Or.inl hat))
            clear NO GO hat hth e43
            go_wp2_with (first | (go_at_call 143; refine A1'.out.mono ?_; rintro e w' ⟨rfl, rfl⟩) | (go_at_call 102; refine W1.out.mono ?_; rintro e w1 ⟨rfl, hb1⟩; have HM1 := hide (HMr.out.below hb1)) | (refine wpList_store_row rfl 131 _ _ rfl _ _ rfl rfl 131 _ (heap_alloc_last _ _) Try.iFrame rfl (frA_one _) ?_; rw [World.setRow_alloc_new]) | (refine wpList_load_row rfl 131 _ rfl _ rfl 131 _ (0, 0) _ (heap_alloc_last _ _) Try.underlying131 rfl Try.iFrame ?_) | (go_at_call 145; refine (stands_any _ N b A its n S f (HM1.out.alloc _) HO.out hf.out).mono ?_; rintro e w2 ⟨rfl, hb2⟩; have HM2 := hide ((HM1.out.alloc _).below hb2); have HF2 := hide ((Blk.newFr w1 f _).below hb2)))
            obtain ⟨g, hg, q1, _⟩ := HM2.out.bodyAt f.item hit
            have q0 : w2.cell? ⟨b, 0, none⟩ = some (.slice A.ai its.length A.ci) := HM2.out.root.cell 0 (by omega)
            rw [hg] at q0
            have q2 : w2.cell? ⟨w1.heap.size, 1, none⟩ = some (.int .i64 (f.item : Int)) := HF2.out.cell 1 (by omega)
            have q3 : w2.cell? ⟨w1.heap.size, 2, none⟩ = some (.int .i64 (f.pos : Int)) := HF2.out.cell 2 (by omega)
            have HB2 := hide (below_go (below_new (below_go HB.out hb1) _) hb2)
            clear hb2 HF2 hg
            generalize f.item = fi at *
            generalize f.pos = fp at *
            generalize Wd.mkS (bodyOf its fi) = sb at *
            generalize num (bodyOf its fi) fp = nm at *
            go_quiet (first | (go_at_call 94; exact Calls.quiet_of_same (A3.out _)))
            go_wp2
            go_round
            case rel => exact ⟨k + 1, nm.toNat, by omega, by omega, by rw [Int.toNat_of_nonneg hnl.1], by go_num, by rw [HP.out, HR.out, show n + 1 - (k + 1) = n - k by omega], below_drewN HB2.out _⟩
            case measure => simp [intOf] <;> omega
          · have t2 : (stands its f != 43) = true := by simp [e43]
            have HR := hide (NO.out e43)
            clear NO GO e43
            go_wp2_with (first | (go_at_call 143; refine A1'.out.mono ?_; rintro e w' ⟨rfl, rfl⟩) | (go_at_call 102; refine W1.out.mono ?_; rintro e w1 ⟨rfl, hb1⟩; have HM1 := hide (HMr.out.below hb1)) | (refine wpList_store_row rfl 131 _ _ rfl _ _ rfl rfl 131 _ (heap_alloc_last _ _) Try.iFrame rfl (frA_one _) ?_; rw [World.setRow_alloc_new]) | (refine wpList_load_row rfl 131 _ rfl _ rfl 131 _ (0, 0) _ (heap_alloc_last _ _) Try.underlying131 rfl Try.iFrame ?_) | (go_at_call 145; refine (stands_any _ N b A its n S f (HM1.out.alloc _) HO.out hf.out).mono ?_; rintro e w2 ⟨rfl, hb2⟩))
            go_ret
            exact ⟨ret_bool (by rw [HP.out, HR.out]), below_go (below_new (below_go HB.out hb1) _) hb2⟩
    · go_wp2
      go_ret
      exact ⟨ret_bool (by rw [HP.out, show n + 1 - k = 0 by omega]; rfl), HB.out⟩
end Go.Proofs.Ytecmfdkhcffpmaa
