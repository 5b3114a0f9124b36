/- MacD, MacE, MacG. -/
import Derived.Test.YtecmfdkhcffpmaaB05
import Derived.Deep.QuietTactic
import Derived.BigRegion
/- Contracts of the document's machine: what stands at a frame's place; who holds a lock. -/
namespace Go.Proofs.Ytecmfdkhcffpmaa
open Go.RowKit
set_option linter.unusedSimpArgs false
set_option linter.unusedVariables false
set_option maxHeartbeats 800000
open Mc

theorem DM.bodyAt {w : World} {N b : Nat} {A : Ad} {its : List Wd.It} {n : Nat} {S : Ma} (h : DM w N b A its n S) (i : Nat) (hi : i < its.length) : ∃ g, A.ai = some ⟨g, 0, none⟩ ∧ w.cell? ⟨g, i * 2 + 1, none⟩ = some (.string (Wd.mkS (bodyOf its i))) ∧ w.cell? ⟨g, i * 2, none⟩ = some (.bool (isH its i)) := by
  obtain ⟨g, h1, h2, h3⟩ := h.items (by omega)
  refine ⟨g, h1, ?_, ?_⟩
  · rw [h2.cell (i * 2 + 1) (by omega)]; simp [itF]; rw [show (i * 2 + 1) / 2 = i by omega]
  · rw [h2.cell (i * 2) (by omega)]; simp [itF]

set_option maxRecDepth 100000 in
theorem stands_any (w : World) (N b : Nat) (A : Ad) (its : List Wd.It) (n : Nat) (S : Ma) (f : Fr) (h : DM w N b A its n S) (hits : ItsOK its) (hf : f.there = true → f.item < its.length ∧ f.pos ≤ 20000) :
    Calls Try.prog 145 #[.pointer (some ⟨b, 0, none⟩), .agg #[.bool f.there, .int .i64 (f.item : Int), .int .i64 (f.pos : Int), .int .i64 (f.held : Int)]] w fun e w' => e = .returned (.int .u8 (stands its f)) ∧ Below w.heap.size w w' := by
  cases ht : f.there
  · have e : stands its f = 95 := by simp [stands, ht]
    rw [e]
    clear e h hf hits
    go_enter Try.func145, Try.ntmps145
    go_wp2
    go_ret
    exact ⟨rfl, (Below.refl _ _).alloc (Nat.le_refl _) _⟩
  · have e : stands its f = atB (Wd.mkS (bodyOf its f.item)).data.toList f.pos := by simp [stands, ht, Wd.mkS_list]
    rw [e]
    obtain ⟨hi, hpos⟩ := hf ht
    obtain ⟨g, hg, q1, q2⟩ := h.bodyAt f.item hi
    have r0 : ∀ o, (w.alloc o).cell? ⟨b, 0, none⟩ = some (.slice A.ai its.length A.ci) := fun o => (h.alloc o).root.cell 0 (by omega)
    rw [hg] at r0
    have q1' : ∀ o, (w.alloc o).cell? ⟨g, f.item * 2 + 1, none⟩ = some (.string (Wd.mkS (bodyOf its f.item))) := by
      intro o
      obtain ⟨g', hg', q', _⟩ := (h.alloc o).bodyAt f.item hi
      rw [hg] at hg'; cases hg'; exact q'
    have hs : (Wd.mkS (bodyOf its f.item)).size ≤ 10000 := by rw [Wd.mkS_size]; exact hits.body _ hi
    have HA := hide (fun w => at_any (Wd.mkS (bodyOf its f.item)) f.pos w hs hpos)
    have CA := h.caps
    unfold maxLen at CA
    clear e h hf hits q1 q2 hg hs
    generalize f.item = fi at *
    generalize f.pos = fp at *
    generalize f.held = fh at *
    generalize Wd.mkS (bodyOf its fi) = sb at *
    go_enter Try.func145, Try.ntmps145
    go_wp2_with fail
    go_quiet (first | (go_at_call 93; exact Calls.quiet_of_same (HA.out _)))
    go_wp2
    go_ret
    exact ⟨rfl, below_drewN ((Below.refl _ _).alloc (Nat.le_refl _) _) _⟩

theorem holderFrom_step (S : Ma) (l n k : Nat) (hk : k < n) : holderFrom S l k (n - k) = if cpHolds (S.cp k) l = true then some k else holderFrom S l (k + 1) (n - (k + 1)) := by
  rw [show n - k = (n - (k + 1)) + 1 by omega]; rfl
theorem holderFrom_lt (S : Ma) (l : Nat) : ∀ m k d, holderFrom S l k m = some d → k ≤ d ∧ d < k + m
  | 0, k, d, h => by simp [holderFrom] at h
  | m + 1, k, d, h => by
    unfold holderFrom at h
    split at h
    · cases h; omega
    · have := holderFrom_lt S l m (k + 1) d h; omega
theorem holder_lt {S : Ma} {n l d : Nat} (h : holder S n l = some d) : d < n := by
  have := holderFrom_lt S l n 0 d h; omega

set_option maxRecDepth 100000 in
theorem holder_any (w : World) (N b : Nat) (A : Ad) (its : List Wd.It) (n : Nat) (S : Ma) (l : Nat) (h : DM w N b A its n S) (hi : Inv its n S) (hn : n ≤ 3) (hl : l ≤ 20) :
    Calls Try.prog 143 #[.pointer (some ⟨b, 0, none⟩), .int .i64 l] w fun e w' => e = .returned (.int .i64 (toI (holder S n l))) ∧ w' = w := by
  have r1 : w.cell? ⟨b, 1, none⟩ = some (.slice (some ⟨A.g1, 0, none⟩) n A.c1) := h.root.cell 1 (by omega)
  have CA := h.caps
  unfold maxLen at CA
  have HM := hide h
  have HI := hide hi
  clear h hi
  go_enter Try.func143, Try.ntmps143
  go_wp2
  go_loop [5] (fun a => ∃ k : Nat, k ≤ n ∧ a = .int .i64 k ∧ holder S n l = holderFrom S l k (n - k)) (fun a => n - (intOf a).toNat)
  case atStart => exact ⟨0, by omega, rfl, rfl⟩
  case round =>
    obtain ⟨k, hk, rfl, hp⟩ := hrel
    have HP := hide hp
    clear hp
    by_cases hlt : k < n
    · have q3 : w.cell? ⟨A.g1, k * 9 + 3, none⟩ = some (.int .i64 ((S.cp k).t.held : Int)) := HM.out.cpAt k 3 hlt (by omega)
      have q7 : w.cell? ⟨A.g1, k * 9 + 7, none⟩ = some (.int .i64 ((S.cp k).h.held : Int)) := HM.out.cpAt k 7 hlt (by omega)
      have ht := (HI.out.t k hlt).held
      have hh := (HI.out.h k hlt).held
      have HS := hide (holderFrom_step S l n k hlt)
      have HC : Hid (cpHolds (S.cp k) l = (holds (S.cp k).t.held l || holds (S.cp k).h.held l)) := hide rfl
      have A1 := hide (holds_any (S.cp k).t.held l w (by omega) hl)
      have A2 := hide (holds_any (S.cp k).h.held l w (by omega) hl)
      generalize (S.cp k).t.held = ht1 at *
      generalize (S.cp k).h.held = hh1 at *
      cases e1 : holds ht1 l
      · cases e2 : holds hh1 l
        · rw [e1] at A1; rw [e2] at A2
          go_wp2_with (first | (go_at_call_of 95 ht1; refine A1.out.mono ?_; rintro e w' ⟨rfl, rfl⟩) | (go_at_call_of 95 hh1; refine A2.out.mono ?_; rintro e w' ⟨rfl, rfl⟩))
          go_round
          case rel => exact ⟨k + 1, by omega, by go_num, by rw [HP.out, HS.out, if_neg (by rw [HC.out, e1, e2]; simp)]⟩
          case measure => simp [intOf] <;> omega
        · rw [e1] at A1; rw [e2] at A2
          go_wp2_with (first | (go_at_call_of 95 ht1; refine A1.out.mono ?_; rintro e w' ⟨rfl, rfl⟩) | (go_at_call_of 95 hh1; refine A2.out.mono ?_; rintro e w' ⟨rfl, rfl⟩))
          go_ret
          exact ⟨ret_int (by rw [HP.out, HS.out, if_pos (by rw [HC.out, e1, e2]; rfl)]; rfl), rfl⟩
      · cases e2 : holds hh1 l
        · rw [e1] at A1; rw [e2] at A2
          go_wp2_with (first | (go_at_call_of 95 ht1; refine A1.out.mono ?_; rintro e w' ⟨rfl, rfl⟩) | (go_at_call_of 95 hh1; refine A2.out.mono ?_; rintro e w' ⟨rfl, rfl⟩))
          go_ret
          exact ⟨ret_int (by rw [HP.out, HS.out, if_pos (by rw [HC.out, e1, e2]; rfl)]; rfl), rfl⟩
        · rw [e1] at A1; rw [e2] at A2
          go_wp2_with (first | (go_at_call_of 95 ht1; refine A1.out.mono ?_; rintro e w' ⟨rfl, rfl⟩) | (go_at_call_of 95 hh1; refine A2.out.mono ?_; rintro e w' ⟨rfl, rfl⟩))
          go_ret
          exact ⟨ret_int (by rw [HP.out, HS.out, if_pos (by rw [HC.out, e1, e2]; rfl)]; rfl), rfl⟩
    · go_wp2
      go_ret
      exact ⟨ret_int (by rw [HP.out, show n - k = 0 by omega]; rfl), rfl⟩

theorem wantsF_some {its : List Wd.It} {f : Fr} (h : stands its f = 43) : wantsF its f = some (num (bodyOf its f.item) f.pos).toNat := by simp [wantsF, h]
theorem wantsF_none {its : List Wd.It} {f : Fr} (h : stands its f ≠ 43) : wantsF its f = none := by simp [wantsF, h]
theorem stands_there {its : List Wd.It} {f : Fr} {c : Int} (h : stands its f = c) (hc : c ≠ 95) : f.there = true := by
  cases ht : f.there
  · simp [stands, ht] at h; exact absurd h.symm hc
  · rfl
theorem works_ok {its : List Wd.It} {n : Nat} {S : Ma} (hi : Inv its n S) (c : Nat) (hc : c < n) : (works S c).there = true → (works S c).item < its.length ∧ (works S c).pos ≤ (bodyOf its (works S c).item).length + 1 := by
  unfold works
  split
  · intro h; exact ⟨(hi.h c hc).item h, (hi.h c hc).pos h⟩
  · intro h; exact ⟨(hi.t c hc).item h, (hi.t c hc).pos h⟩
/-- The lock at a + is one of six. -/
theorem num_lock {its : List Wd.It} (ho : ItsOK its) {i p : Nat} (hi : i < its.length) (h : atB (bodyOf its i) p = 43 ∨ atB (bodyOf its i) p = 45) : 0 ≤ num (bodyOf its i) p ∧ num (bodyOf its i) p ≤ 5 := by
  have hp : p < (bodyOf its i).length := by
    by_cases e : p < (bodyOf its i).length
    · exact e
    · simp [atB, e] at h
  simp only [atB, hp, if_true] at h
  obtain ⟨h1, h2, h3⟩ := (ho.pair i hi p hp).1 h
  rw [num, if_pos h1, if_pos h2]; omega
theorem num_ok {its : List Wd.It} (ho : ItsOK its) {i p : Nat} (hi : i < its.length) (h : atB (bodyOf its i) p = 43 ∨ atB (bodyOf its i) p = 45 ∨ atB (bodyOf its i) p = 114 ∨ atB (bodyOf its i) p = 119) : p + 1 < (bodyOf its i).length → 48 ≤ Wd.at_ (bodyOf its i) (p + 1) := by
  intro hl
  have hp : p < (bodyOf its i).length := by omega
  simp only [atB, hp, if_true] at h
  rcases h with h | h | h | h
  · have := (ho.pair i hi p hp).1 (Or.inl h); omega
  · have := (ho.pair i hi p hp).1 (Or.inr h); omega
  · have := (ho.pair i hi p hp).2 (Or.inl h); omega
  · have := (ho.pair i hi p hp).2 (Or.inr h); omega
end Go.Proofs.Ytecmfdkhcffpmaa
/- Contracts of the document's machine: rings of processors that wait. -/
namespace Go.Proofs.Ytecmfdkhcffpmaa
open Go.RowKit
set_option linter.unusedSimpArgs false
set_option linter.unusedVariables false
set_option maxHeartbeats 800000
open Mc

theorem below_go {a b c : World} (h1 : Below a.heap.size a b) (h2 : Below b.heap.size b c) : Below a.heap.size a c := h1.trans (h2.mono h1.size)
theorem below_new {a b : World} (h1 : Below a.heap.size a b) (o : Obj) : Below a.heap.size a (b.alloc o) := h1.alloc h1.size o
def frF (f : Fr) : Nat → Value
  | 0 => .bool f.there
  | 1 => .int .i64 (f.item : Int)
  | 2 => .int .i64 (f.pos : Int)
  | _ => .int .i64 (f.held : Int)
theorem Blk.newFr (w : World) (f : Fr) (t : TypeId) : Blk (w.alloc (.cells #[.bool f.there, .int .i64 (f.item : Int), .int .i64 (f.pos : Int), .int .i64 (f.held : Int)] t)) w.heap.size 4 (frF f) := by
  refine ⟨_, t, heap_alloc_last _ _, fun i hi => ?_⟩
  rcases i with _ | _ | _ | _ | i <;> first | rfl | omega
theorem frA_one (f : Fr) : (#[Value.bool f.there, .int .i64 (f.item : Int), .int .i64 (f.pos : Int), .int .i64 (f.held : Int)]).all (·.oneCell') = true := frV_one f
theorem worksA_any (w : World) (N b : Nat) (A : Ad) (its : List Wd.It) (n : Nat) (S : Ma) (c : Nat) (h : DM w N b A its n S) (hc : c < n) (hn : n ≤ 3) :
    Calls Try.prog 102 #[.pointer (some ⟨b, 0, none⟩), .int .i64 c] w fun e w' => e = .returned (.agg #[.bool (works S c).there, .int .i64 ((works S c).item : Int), .int .i64 ((works S c).pos : Int), .int .i64 ((works S c).held : Int)]) ∧ Below w.heap.size w w' := works_any w N b A its n S c h hc hn

theorem ringFrom_none {its : List Wd.It} {S : Ma} {n c k m l : Nat} (h : holder S n l = none) : ringFrom its S n c k (m + 1) l = false := by
  simp [ringFrom, h]
theorem ringFrom_own {its : List Wd.It} {S : Ma} {n c k m l : Nat} (h : holder S n l = some c) : ringFrom its S n c k (m + 1) l = decide (0 < k) := by
  simp [ringFrom, h]
theorem ringFrom_not {its : List Wd.It} {S : Ma} {n c k m l d : Nat} (h : holder S n l = some d) (hd : d ≠ c) (hw : stands its (works S d) ≠ 43) : ringFrom its S n c k (m + 1) l = false := by
  simp [ringFrom, h, hd, wantsF_none hw]
theorem ringFrom_go {its : List Wd.It} {S : Ma} {n c k m l d : Nat} (h : holder S n l = some d) (hd : d ≠ c) (hw : stands its (works S d) = 43) : ringFrom its S n c k (m + 1) l = ringFrom its S n c (k + 1) m (num (bodyOf its (works S d).item) (works S d).pos).toNat := by
  simp [ringFrom, h, hd, wantsF_some hw]

theorem numberB_any (its : List Wd.It) (ho : ItsOK its) (i p : Nat) (w : World) (hi : i < its.length) (hp : p ≤ 20000) (h : atB (bodyOf its i) p = 43 ∨ atB (bodyOf its i) p = 45 ∨ atB (bodyOf its i) p = 114 ∨ atB (bodyOf its i) p = 119) :
    Calls Try.prog 94 #[.string (Wd.mkS (bodyOf its i)), .int .i64 p] w fun e w' => e = .returned (.int .i64 (num (bodyOf its i) p)) ∧ w' = w := by
  have := number_any (Wd.mkS (bodyOf its i)) p w (by rw [Wd.mkS_size]; exact ho.body i hi) hp (by rw [Wd.mkS_size, Wd.mkS_list]; exact num_ok ho hi h)
  rwa [Wd.mkS_list] at this

set_option maxRecDepth 100000 in
theorem ring_any (w : World) (N b : Nat) (A : Ad) (its : List Wd.It) (n : Nat) (S : Ma) (c l : Nat) (h : DM w N b A its n S) (ho : ItsOK its) (hi : Inv its n S) (hn : n ≤ 3) (hc : c < n) (hl : l ≤ 5) :
    Calls Try.prog 144 #[.pointer (some ⟨b, 0, none⟩), .int .i64 c, .int .i64 l] w fun e w' => e = .returned (.bool (ring its S n c l)) ∧ Below w.heap.size w w' := by
  have CA := h.caps
  unfold maxLen at CA
  have HM := hide h
  have HI := hide hi
  have HO := hide ho
  clear h hi ho
  have r1 : w.cell? ⟨b, 1, none⟩ = some (.slice (some ⟨A.g1, 0, none⟩) n A.c1) := HM.out.root.cell 1 (by omega)
  go_enter Try.func144, Try.ntmps144
  go_wp2
  clear r1
  go_loopw [2, 7] (fun a b wr => ∃ (k l' : Nat), k ≤ n + 1 ∧ l' ≤ 5 ∧ a = .int .i64 l' ∧ b = .int .i64 k ∧ ring its S n c l = ringFrom its S n c k (n + 1 - k) l' ∧ Below w.heap.size w wr) (fun _ b _ => n + 1 - (intOf b).toNat)
  case atStart => exact ⟨0, l, by omega, hl, rfl, rfl, rfl, Below.refl _ _⟩
  case round =>
    obtain ⟨k, l', hk, hl', rfl, rfl, hp, hbe⟩ := hrel
    have HP := hide hp
    have HB := hide hbe
    clear hp hbe
    have HMr := hide (HM.out.below HB.out)
    have r1 : wr.cell? ⟨b, 1, none⟩ = some (.slice (some ⟨A.g1, 0, none⟩) n A.c1) := HMr.out.root.cell 1 (by omega)
    by_cases hlt : k ≤ n
    · rw [show n + 1 - k = (n - k) + 1 by omega] at HP
      have A1 := hide (holder_any wr N b A its n S l' HMr.out HI.out hn (by omega))
      cases ed : holder S n l' with
      | none =>
        have HR := hide (ringFrom_none (its := its) (c := c) (k := k) (m := n - k) ed)
        rw [ed] at A1
        have A1' : Hid (Calls Try.prog 143 #[.pointer (some ⟨b, 0, none⟩), .int .i64 l'] wr fun e w' => e = .returned (.int .i64 (-1)) ∧ w' = wr) := A1
        clear A1 ed
        have t1 : ((-1 : Int) == (c : Int)) = false := by simp
        go_wp2_with (first | (go_at_call 143; refine A1'.out.mono ?_; rintro e w' ⟨rfl, rfl⟩))
        go_ret
        exact ⟨ret_bool (by rw [HP.out, HR.out]), HB.out⟩
      | some d =>
        rw [ed] at A1
        have A1' : Hid (Calls Try.prog 143 #[.pointer (some ⟨b, 0, none⟩), .int .i64 l'] wr fun e w' => e = .returned (.int .i64 (d : Int)) ∧ w' = wr) := A1
        have hdn := holder_lt ed
        have ED := hide ed
        clear A1 ed
        by_cases hdc : d = c
        · subst hdc
          have HR := hide (ringFrom_own (its := its) (c := d) (k := k) (m := n - k) ED.out)
          have t1 : ((d : Int) == (d : Int)) = true := by simp
          go_wp2_with (first | (go_at_call 143; refine A1'.out.mono ?_; rintro e w' ⟨rfl, rfl⟩))
          go_ret
          exact ⟨ret_bool (by rw [HP.out, HR.out]), HB.out⟩
        · have t1 : ((d : Int) == (c : Int)) = false := by simp; omega
          have W1 := hide (worksA_any wr N b A its n S d HMr.out hdn hn)
          have hok := hide (works_ok HI.out d hdn)
          have NO := hide (fun h => ringFrom_not (its := its) (c := c) (k := k) (m := n - k) ED.out hdc h)
          have GO := hide (fun h => ringFrom_go (its := its) (c := c) (k := k) (m := n - k) ED.out hdc h)
          generalize works S d = f at *
          have hf : Hid (f.there = true → f.item < its.length ∧ f.pos ≤ 20000) := hide fun h => ⟨(hok.out h).1, by have := hok.out h; have := HO.out.body _ this.1; omega⟩
          by_cases e43 : stands its f = 43
          · have t2 : (stands its f != 43) = false := by simp [e43]
            have HR := hide (GO.out e43)
            have hth := stands_there e43 (by decide)
            have hat : atB (bodyOf its f.item) f.pos = 43 := by simpa [stands, hth] using e43
            have hit := (hf.out hth).1
            have hpo := (hf.out hth).2
            have hnl := num_lock HO.out hit (Or.inl hat)
            have A3 := hide (fun w => numberB_any its HO.out f.item f.pos w hit hpo (Or.inl hat))
            clear NO GO hat hth e43
            go_wp2_with (first | (go_at_call 143; refine A1'.out.mono ?_; rintro e w' ⟨rfl, rfl⟩) | (go_at_call 102; refine W1.out.mono ?_; rintro e w1 ⟨rfl, hb1⟩; have HM1 := hide (HMr.out.below hb1)) | (refine wpList_store_row rfl 131 _ _ rfl _ _ rfl rfl 131 _ (heap_alloc_last _ _) Try.iFrame rfl (frA_one _) ?_; rw [World.setRow_alloc_new]) | (refine wpList_load_row rfl 131 _ rfl _ rfl 131 _ (0, 0) _ (heap_alloc_last _ _) Try.underlying131 rfl Try.iFrame ?_) | (go_at_call 145; refine (stands_any _ N b A its n S f (HM1.out.alloc _) HO.out hf.out).mono ?_; rintro e w2 ⟨rfl, hb2⟩; have HM2 := hide ((HM1.out.alloc _).below hb2); have HF2 := hide ((Blk.newFr w1 f _).below hb2)))
            obtain ⟨g, hg, q1, _⟩ := HM2.out.bodyAt f.item hit
            have q0 : w2.cell? ⟨b, 0, none⟩ = some (.slice A.ai its.length A.ci) := HM2.out.root.cell 0 (by omega)
            rw [hg] at q0
            have q2 : w2.cell? ⟨w1.heap.size, 1, none⟩ = some (.int .i64 (f.item : Int)) := HF2.out.cell 1 (by omega)
            have q3 : w2.cell? ⟨w1.heap.size, 2, none⟩ = some (.int .i64 (f.pos : Int)) := HF2.out.cell 2 (by omega)
            have HB2 := hide (below_go (below_new (below_go HB.out hb1) _) hb2)
            clear hb2 HF2 hg
            generalize f.item = fi at *
            generalize f.pos = fp at *
            generalize Wd.mkS (bodyOf its fi) = sb at *
            generalize num (bodyOf its fi) fp = nm at *
            go_quiet (first | (go_at_call 94; exact Calls.quiet_of_same (A3.out _)))
            go_wp2
            go_round
            case rel => exact ⟨k + 1, nm.toNat, by omega, by omega, by rw [Int.toNat_of_nonneg hnl.1], by go_num, by rw [HP.out, HR.out, show n + 1 - (k + 1) = n - k by omega], below_drewN HB2.out _⟩
            case measure => simp [intOf] <;> omega
          · have t2 : (stands its f != 43) = true := by simp [e43]
            have HR := hide (NO.out e43)
            clear NO GO e43
            go_wp2_with (first | (go_at_call 143; refine A1'.out.mono ?_; rintro e w' ⟨rfl, rfl⟩) | (go_at_call 102; refine W1.out.mono ?_; rintro e w1 ⟨rfl, hb1⟩; have HM1 := hide (HMr.out.below hb1)) | (refine wpList_store_row rfl 131 _ _ rfl _ _ rfl rfl 131 _ (heap_alloc_last _ _) Try.iFrame rfl (frA_one _) ?_; rw [World.setRow_alloc_new]) | (refine wpList_load_row rfl 131 _ rfl _ rfl 131 _ (0, 0) _ (heap_alloc_last _ _) Try.underlying131 rfl Try.iFrame ?_) | (go_at_call 145; refine (stands_any _ N b A its n S f (HM1.out.alloc _) HO.out hf.out).mono ?_; rintro e w2 ⟨rfl, hb2⟩))
            go_ret
            exact ⟨ret_bool (by rw [HP.out, HR.out]), below_go (below_new (below_go HB.out hb1) _) hb2⟩
    · go_wp2
      go_ret
      exact ⟨ret_bool (by rw [HP.out, show n + 1 - k = 0 by omega]; rfl), HB.out⟩
end Go.Proofs.Ytecmfdkhcffpmaa
/- Contracts of the document's machine: a frame is laid; a thread leaves. -/
namespace Go.Proofs.Ytecmfdkhcffpmaa
open Go.RowKit
set_option linter.unusedSimpArgs false
set_option linter.unusedVariables false
set_option maxHeartbeats 800000
open Mc

/-- All stands but for the machine's own blocks. -/
structure Kp (A : Ad) (w w' : World) : Prop where
  below : Below 0 w w'
  same : ∀ k, k < w.heap.size → k ≠ A.g1 → k ≠ A.g3 → A.a2 ≠ some ⟨k, 0, none⟩ → w'.heap[k]? = w.heap[k]?
theorem Kp.of {A : Ad} {w w' : World} (h : Below w.heap.size w w') : Kp A w w' := ⟨h.mono (Nat.zero_le _), fun k hk _ _ _ => h.block k hk⟩
theorem Kp.refl (A : Ad) (w : World) : Kp A w w := Kp.of (Below.refl _ _)
theorem Kp.size {A : Ad} {w w' : World} (h : Kp A w w') : w.heap.size ≤ w'.heap.size := h.below.size
theorem Kp.trans {A : Ad} {a b c : World} (h1 : Kp A a b) (h2 : Kp A b c) : Kp A a c :=
  ⟨h1.below.trans h2.below, fun k hk e1 e2 e3 => (h2.same k (Nat.lt_of_lt_of_le hk h1.size) e1 e2 e3).trans (h1.same k hk e1 e2 e3)⟩
theorem Kp.drew {A : Ad} {a w : World} (h : Kp A a w) : Kp A a w.drew := h.trans (Kp.of ((Below.refl _ _).drew))
theorem Kp.alloc {A : Ad} {a w : World} (h : Kp A a w) (o : Obj) : Kp A a (w.alloc o) := h.trans (Kp.of ((Below.refl _ _).alloc (Nat.le_refl _) o))
theorem Kp.toBelow {A : Ad} {w w' : World} {B : Nat} (h : Kp A w w') (hB : B ≤ w.heap.size) (h1 : B ≤ A.g1) (h3 : B ≤ A.g3) (h2 : ∀ g, A.a2 = some ⟨g, 0, none⟩ → B ≤ g) : Below B w w' :=
  ⟨h.below.os, h.below.tape, h.below.output, h.below.size, fun k hk => h.same k (by omega) (by omega) (by omega) (fun e => by have := h2 k e; omega)⟩
theorem Kp.sets1 {A : Ad} {a w : World} (h : Kp A a w) (o : Nat) (vs : List Value) : Kp A a (w.setCells A.g1 o vs) :=
  h.trans ⟨Below.setCells A.g1 (Nat.zero_le _) vs o w (Below.refl _ _), fun k hk e1 e2 e3 => heap_setCells_other A.g1 vs o w k e1⟩
theorem Kp.set1 {A : Ad} {a w : World} (h : Kp A a w) (o : Nat) (v : Value) : Kp A a (w.setCell ⟨A.g1, o, none⟩ v) := h.sets1 o [v]
theorem Kp.set3 {A : Ad} {a w : World} (h : Kp A a w) (o : Nat) (v : Value) : Kp A a (w.setCell ⟨A.g3, o, none⟩ v) :=
  h.trans ⟨(Below.refl _ _).setCell (p := ⟨A.g3, o, none⟩) (Nat.zero_le _) v, fun k hk e1 e2 e3 => heap_setCell_other w ⟨A.g3, o, none⟩ k v e2⟩
theorem Kp.set2 {A : Ad} {a w : World} {g : Nat} (h : Kp A a w) (hg : A.a2 = some ⟨g, 0, none⟩) (o : Nat) (v : Value) : Kp A a (w.setCell ⟨g, o, none⟩ v) :=
  h.trans ⟨(Below.refl _ _).setCell (p := ⟨g, o, none⟩) (Nat.zero_le _) v, fun k hk e1 e2 e3 => heap_setCell_other w ⟨g, o, none⟩ k v (by intro e; have e' : k = g := e; subst e'; exact e3 hg)⟩

theorem DM.upd {w w' : World} {N b : Nat} {A : Ad} {its : List Wd.It} {n : Nat} {S S' : Ma} (h : DM w N b A its n S) (hk : Kp A w w') (hc : Blk w' A.g1 (n * 9) (cpsF S')) (hr : ∀ g, A.a2 = some ⟨g, 0, none⟩ → 0 < its.length → Blk w' g its.length (fun i => .bool (S'.rd i))) (ha : Blk w' A.g3 its.length (fun i => .int .i64 (S'.pl i : Int))) : DM w' N b A its n S' := by
  obtain ⟨n1, n2, n3, n4⟩ := h.a2
  obtain ⟨m1, m2, m3, m4, m5, m6⟩ := h.ne
  refine ⟨h.root.same (hk.same b h.root.lt m1 m2 n1), fun hl => ?_, hc, fun hl => ?_, ha, h.ne, h.caps, h.a2⟩
  · obtain ⟨g, e1, e2, e3, e4, e5⟩ := h.items hl
    refine ⟨g, e1, e2.same (hk.same g e2.lt e4 e5 ?_), e3, e4, e5⟩
    obtain ⟨g', k1, k2, k3, k4, k5, k6, k7⟩ := h.ready hl
    intro e; rw [k1] at e; cases e; exact k7 e1
  · obtain ⟨g', k1, k2, k3, k4, k5, k6, k7⟩ := h.ready hl
    exact ⟨g', k1, hr g' k1 hl, k3, k4, k5, k6, k7⟩
/-- Only processors have changed. -/
theorem DM.updC {w w' : World} {N b : Nat} {A : Ad} {its : List Wd.It} {n : Nat} {S S' : Ma} (h : DM w N b A its n S) (hk : Kp A w w') (hc : Blk w' A.g1 (n * 9) (cpsF S')) (e1 : S'.rd = S.rd) (e2 : S'.pl = S.pl) (h2 : ∀ g, g ≠ A.g1 → g < w.heap.size → w'.heap[g]? = w.heap[g]?) : DM w' N b A its n S' := by
  refine h.upd hk hc (fun g hg hl => ?_) ?_
  · obtain ⟨g', k1, k2, k3, k4, k5, k6, k7⟩ := h.ready hl
    rw [hg] at k1; cases k1
    rw [e1]; exact k2.same (h2 g k4 k2.lt)
  · rw [e2]; exact h.at_.same (h2 _ (Ne.symm h.ne.2.2.1) h.at_.lt)

theorem Kp.dm {w : World} {N b : Nat} {A : Ad} {its : List Wd.It} {n : Nat} {S : Ma} (h : DM w N b A its n S) {a w' : World} (hk : Kp A a w') (hN : N ≤ a.heap.size) : Below N a w' := hk.toBelow hN h.ne.2.2.2.2.1 h.ne.2.2.2.2.2 h.a2.2.2.2

theorem cps_setH (S : Ma) (c : Nat) (f : Fr) (i : Nat) : (if c * 9 + 4 ≤ i then ((frV f)[i - (c * 9 + 4)]?).getD (cpsF S i) else cpsF S i) = cpsF (setCp S c { (S.cp c) with h := f }) i := by
  unfold cpsF setCp
  by_cases e : i / 9 = c
  · have hi : i = c * 9 + i % 9 := by omega
    have hm : i % 9 < 9 := Nat.mod_lt _ (by omega)
    simp only [e, if_true]
    generalize i % 9 = m at *
    subst hi
    rcases m with _ | _ | _ | _ | _ | _ | _ | _ | _ | m <;> first | omega | (simp [frV, cpF, Nat.add_sub_add_left]; done) | (rw [if_neg (by omega)]; rfl) | skip
    all_goals (rw [if_pos (by omega)]; simp [frV, cpF])
  · simp only [if_neg e]
    by_cases e2 : c * 9 + 4 ≤ i
    · rw [if_pos e2, List.getElem?_eq_none (by simp [frV]; omega)]; rfl
    · rw [if_neg e2]
theorem cps_setT (S : Ma) (c : Nat) (f : Fr) (i : Nat) : (if c * 9 ≤ i then ((frV f)[i - c * 9]?).getD (cpsF S i) else cpsF S i) = cpsF (setCp S c { (S.cp c) with t := f }) i := by
  unfold cpsF setCp
  by_cases e : i / 9 = c
  · have hi : i = c * 9 + i % 9 := by omega
    have hm : i % 9 < 9 := Nat.mod_lt _ (by omega)
    simp only [e, if_true]
    generalize i % 9 = m at *
    subst hi
    rw [if_pos (by omega), Nat.add_sub_cancel_left]
    rcases m with _ | _ | _ | _ | _ | _ | _ | _ | _ | m <;> first | omega | rfl
  · simp only [if_neg e]
    by_cases e2 : c * 9 ≤ i
    · rw [if_pos e2, List.getElem?_eq_none (by simp [frV]; omega)]; rfl
    · rw [if_neg e2]
theorem DM.setH {w : World} {N b : Nat} {A : Ad} {its : List Wd.It} {n : Nat} {S : Ma} (h : DM w N b A its n S) (c : Nat) (f : Fr) : DM (w.setCells A.g1 (c * 9 + 4) (frV f)) N b A its n (setCp S c { (S.cp c) with h := f }) :=
  h.updC ((Kp.refl A w).sets1 _ _) ((Blk.sets (frV f) (c * 9 + 4) w _ h.cpus).congr fun i _ => cps_setH S c f i) rfl rfl (fun g hg _ => heap_setCells_other _ _ _ _ _ hg)
theorem DM.setT {w : World} {N b : Nat} {A : Ad} {its : List Wd.It} {n : Nat} {S : Ma} (h : DM w N b A its n S) (c : Nat) (f : Fr) : DM (w.setCells A.g1 (c * 9) (frV f)) N b A its n (setCp S c { (S.cp c) with t := f }) :=
  h.updC ((Kp.refl A w).sets1 _ _) ((Blk.sets (frV f) (c * 9) w _ h.cpus).congr fun i _ => cps_setT S c f i) rfl rfl (fun g hg _ => heap_setCells_other _ _ _ _ _ hg)
theorem DM.drew {w : World} {N b : Nat} {A : Ad} {its : List Wd.It} {n : Nat} {S : Ma} (h : DM w N b A its n S) : DM w.drew N b A its n S := h.below ((Below.refl _ _).drew)
theorem DM.cpFro {w : World} {N b : Nat} {A : Ad} {its : List Wd.It} {n : Nat} {S : Ma} (h : DM w N b A its n S) (c j : Nat) : w.frozen? ⟨A.g1, c * 9 + j, none⟩ = false := h.cpus.frozen _

set_option maxRecDepth 100000 in
theorem put_any (w : World) (N b : Nat) (A : Ad) (its : List Wd.It) (n : Nat) (S : Ma) (c : Nat) (f : Fr) (h : DM w N b A its n S) (hc : c < n) (hn : n ≤ 3) :
    Calls Try.prog 115 #[.pointer (some ⟨b, 0, none⟩), .int .i64 c, .agg #[.bool f.there, .int .i64 (f.item : Int), .int .i64 (f.pos : Int), .int .i64 (f.held : Int)]] w fun e w' => e = .returned (.tuple #[]) ∧ DM w' N b A its n (put S c f) ∧ Kp A w w' := by
  have r1 : ∀ o, (w.alloc o).cell? ⟨b, 1, none⟩ = some (.slice (some ⟨A.g1, 0, none⟩) n A.c1) := fun o => (h.alloc o).root.cell 1 (by omega)
  have q4 : ∀ o, (w.alloc o).cell? ⟨A.g1, c * 9 + 4, none⟩ = some (.bool (S.cp c).h.there) := fun o => (h.alloc o).cpAt c 4 hc (by omega)
  have CA := h.caps
  unfold maxLen at CA
  cases ht : (S.cp c).h.there
  · have q0 : ∀ o, (w.alloc o).cell? ⟨A.g1, c * 9, none⟩ = some (.bool (S.cp c).t.there) := fun o => (h.alloc o).cpAt c 0 hc (by omega)
    have q1 : ∀ o, (w.alloc o).cell? ⟨A.g1, c * 9 + 1, none⟩ = some (.int .i64 ((S.cp c).t.item : Int)) := fun o => (h.alloc o).cpAt c 1 hc (by omega)
    have q2 : ∀ o, (w.alloc o).cell? ⟨A.g1, c * 9 + 2, none⟩ = some (.int .i64 ((S.cp c).t.pos : Int)) := fun o => (h.alloc o).cpAt c 2 hc (by omega)
    have q3 : ∀ o, (w.alloc o).cell? ⟨A.g1, c * 9 + 3, none⟩ = some (.int .i64 ((S.cp c).t.held : Int)) := fun o => (h.alloc o).cpAt c 3 hc (by omega)
    have f0 : ∀ o, (w.alloc o).frozen? ⟨A.g1, c * 9, none⟩ = false := fun o => (h.alloc o).cpFro c 0
    have f1 : ∀ o, (w.alloc o).frozen? ⟨A.g1, c * 9 + 1, none⟩ = false := fun o => (h.alloc o).cpFro c 1
    have f2 : ∀ o, (w.alloc o).frozen? ⟨A.g1, c * 9 + 2, none⟩ = false := fun o => (h.alloc o).cpFro c 2
    have f3 : ∀ o, (w.alloc o).frozen? ⟨A.g1, c * 9 + 3, none⟩ = false := fun o => (h.alloc o).cpFro c 3
    rw [ht] at q4
    have HM := hide h
    have HP : Hid (put S c f = setCp S c { (S.cp c) with t := f }) := by apply hide; simp [put, putCp, ht]
    clear h ht
    go_enter Try.func115, Try.ntmps115
    go_wp2_with fail
    go_region
    go_end0
    refine ⟨rfl, ?_, ?_⟩
    · rw [HP.out]; exact ((HM.out.alloc _).setT c f).drew
    · exact (((Kp.refl A w).alloc _).sets1 (c * 9) (frV f)).drew
  · have q5 : ∀ o, (w.alloc o).cell? ⟨A.g1, c * 9 + 4 + 1, none⟩ = some (.int .i64 ((S.cp c).h.item : Int)) := fun o => (h.alloc o).cpAt c 5 hc (by omega)
    have q6 : ∀ o, (w.alloc o).cell? ⟨A.g1, c * 9 + 4 + 2, none⟩ = some (.int .i64 ((S.cp c).h.pos : Int)) := fun o => (h.alloc o).cpAt c 6 hc (by omega)
    have q7 : ∀ o, (w.alloc o).cell? ⟨A.g1, c * 9 + 4 + 3, none⟩ = some (.int .i64 ((S.cp c).h.held : Int)) := fun o => (h.alloc o).cpAt c 7 hc (by omega)
    have f4 : ∀ o, (w.alloc o).frozen? ⟨A.g1, c * 9 + 4, none⟩ = false := fun o => (h.alloc o).cpFro c 4
    have f5 : ∀ o, (w.alloc o).frozen? ⟨A.g1, c * 9 + 4 + 1, none⟩ = false := fun o => (h.alloc o).cpFro c 5
    have f6 : ∀ o, (w.alloc o).frozen? ⟨A.g1, c * 9 + 4 + 2, none⟩ = false := fun o => (h.alloc o).cpFro c 6
    have f7 : ∀ o, (w.alloc o).frozen? ⟨A.g1, c * 9 + 4 + 3, none⟩ = false := fun o => (h.alloc o).cpFro c 7
    rw [ht] at q4
    have HM := hide h
    have HP : Hid (put S c f = setCp S c { (S.cp c) with h := f }) := by apply hide; simp [put, putCp, ht]
    clear h ht
    go_enter Try.func115, Try.ntmps115
    go_wp2_with fail
    go_region
    go_end0
    refine ⟨rfl, ?_, ?_⟩
    · rw [HP.out]; exact ((HM.out.alloc _).setH c f).drew
    · exact (((Kp.refl A w).alloc _).sets1 (c * 9 + 4) (frV f)).drew
end Go.Proofs.Ytecmfdkhcffpmaa
