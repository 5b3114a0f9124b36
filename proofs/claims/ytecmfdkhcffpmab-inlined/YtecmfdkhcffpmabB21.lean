/- ProgA. -/
import Derived.Test.YtecmfdkhcffpmabB11
import Derived.Test.YtecmfdkhcffpmabB10
import Derived.Test.YtecmfdkhcffpmabB18
import Derived.Test.YtecmfdkhcffpmabB20
/- Contracts of the program's steps: where brackets and bars lead. -/
namespace Go.Proofs.Ytecmfdkhcffpmab
open Go.RowKit
set_option linter.unusedSimpArgs false
set_option linter.unusedVariables false
set_option maxHeartbeats 8000000
open Mc

def natsV (l : List Nat) : List Value := l.map fun (i : Nat) => Value.int .i64 (i : Int)
theorem own_cut {w : World} {base : Nat} {e : TypeId} {g n cap : Nat} {xs : List Value} (h : w.ownsRow base e 1 (.slice (some ⟨g, 0, none⟩) (n + 1) cap) (n + 1) xs) : w.ownsRow base e 1 (.slice (some ⟨g, 0, none⟩) n cap) n (xs.take n) := by
  obtain ⟨h1, h2⟩ := h
  refine ⟨by simp; omega, ?_⟩
  rcases h2 with ⟨h2, _⟩ | ⟨g', cap', cur, h2, hb, hg, hc, hm, hs, ht⟩
  · cases h2
  · cases h2
    refine .inr ⟨g, cap, cur, rfl, hb, hg, by omega, hm, hs, ?_⟩
    rw [← ht, List.take_take]; congr 1; omega
theorem own_block {w : World} {base : Nat} {e : TypeId} {g n cap : Nat} {xs : List Value} {sz : Nat} (h : w.ownsRow base e sz (.slice (some ⟨g, 0, none⟩) n cap) n xs) : base ≤ g ∧ g < w.heap.size ∧ n ≤ cap ∧ cap ≤ maxLen := by
  rcases h.2 with ⟨h2, _⟩ | ⟨g', cap', cur, h2, hb, hg, hc, hm, hs, ht⟩
  · cases h2
  · cases h2; exact ⟨hb, row_lt hg, hc, hm⟩
theorem own_set {w : World} {base : Nat} {e : TypeId} {sz : Nat} {v : Value} {n : Nat} {xs : List Value} (h : w.ownsRow base e sz v n xs) (p : Addr) (hp : p.block < base) (u : Value) : (w.setCell p u).ownsRow base e sz v n xs :=
  own_same h fun g hg _ => heap_setCell_other w p g u (by omega)
theorem ldStep_open {i : Nat} {c : Int} {s : List Nat} {L : Nat → Nat} (h : c = 40 ∨ c = 91) : ldStep i c (s, L) = (i :: s, L) := by
  unfold ldStep ldPush ldPop
  cases s with
  | nil => simp only; rw [if_pos (by omega)]
  | cons q r => simp only; rw [if_neg (show ¬ (c = 124 ∨ c = 41 ∨ c = 93) by omega), if_pos (by omega)]
theorem ldStep_close {i : Nat} {c : Int} {q : Nat} {s : List Nat} {L : Nat → Nat} (h : c = 41 ∨ c = 93) : ldStep i c (q :: s, L) = (s, fun x => if x = i then q else if x = q then i + 1 else L x) := by
  unfold ldStep ldPush ldPop
  simp only
  rw [if_pos (show c = 124 ∨ c = 41 ∨ c = 93 by omega), if_neg (by omega)]
theorem ldStep_close0 {i : Nat} {c : Int} {L : Nat → Nat} (h : c = 41 ∨ c = 93) : ldStep i c ([], L) = ([], L) := by
  unfold ldStep ldPush ldPop
  simp only
  rw [if_neg (by omega)]
theorem ldStep_bar {i : Nat} {q : Nat} {s : List Nat} {L : Nat → Nat} : ldStep i 124 (q :: s, L) = (i :: s, fun x => if x = i then q else if x = q then i + 1 else L x) := rfl
theorem ldStep_bar0 {i : Nat} {L : Nat → Nat} : ldStep i 124 ([], L) = ([i], L) := rfl
theorem ldRun_step (s : ByteArray) (k : Nat) (z : Ld) (h : k < s.size) : ldRun (s.data.toList.drop k) k z = ldRun (s.data.toList.drop (k + 1)) (k + 1) (ldStep k ((s[k].toNat : Nat) : Int) z) := by
  rw [Wd.drop_cons s k h]; rfl
theorem ldRun_end (s : ByteArray) (k : Nat) (z : Ld) (h : s.size ≤ k) : ldRun (s.data.toList.drop k) k z = z := by
  rw [List.drop_of_length_le (by rw [Wd.len_str]; exact h)]; rfl
theorem cell_one_at {w : World} {H : Nat} (hH : w.heap.size = H) (v : Value) (t : TypeId) : ∀ j u, [v][j]? = some u → (w.alloc (.cells #[v] t)).cell? ((⟨H, 0, none⟩ : Addr).add j) = some u := by
  subst hH; exact cell_one_new _ _ _
theorem natsV_snoc (l : List Nat) (i : Nat) : natsV (l ++ [i]) = natsV l ++ [.int .i64 (i : Int)] := by simp [natsV]
theorem natsV_cut (q : Nat) (r : List Nat) : (natsV (q :: r).reverse).take r.length = natsV r.reverse := by
  rw [List.reverse_cons, natsV_snoc]
  rw [List.take_append_of_le_length (by simp [natsV]), List.take_of_length_le (by simp [natsV])]
theorem natsV_last (q : Nat) (r : List Nat) : (natsV (q :: r).reverse)[r.length]? = some (.int .i64 (q : Int)) := by
  rw [List.reverse_cons, natsV_snoc, List.getElem?_append_right (by simp [natsV])]
  simp [natsV]
theorem Blk.two {w : World} {N n : Nat} {L : Nat → Nat} {i q : Nat} (h : Blk w N n (fun x => .int .i64 (L x : Int))) : Blk ((w.setCell ⟨N, q, none⟩ (.int .i64 ((i : Int) + 1))).setCell ⟨N, i, none⟩ (.int .i64 (q : Int))) N n (fun x => .int .i64 (((fun x => if x = i then q else if x = q then i + 1 else L x) x : Nat) : Int)) := by
  refine ((h.set q _).set i _).congr fun x _ => ?_
  simp only
  by_cases e1 : x = i
  · simp [e1]
  · by_cases e2 : x = q
    · simp [e1, e2]
      rw [if_neg (by rw [← e2]; exact e1), if_neg (by rw [← e2]; exact e1)]; simp
    · simp [e1, e2]

set_option maxRecDepth 100000 in
theorem leadsOf_any (s : ByteArray) (w : World) (hs : s.size ≤ 1000) :
    Calls Try.prog 84 #[.string s] w fun e w' => ∃ g, e = .returned (.slice (some ⟨g, 0, none⟩) s.size s.size) ∧ w.heap.size ≤ g ∧ Blk w' g s.size (fun i => .int .i64 ((leads s.data.toList i : Nat) : Int)) ∧ Below w.heap.size w w' := by
  have hmk := fun W => mk_ints W s.size (by omega)
  obtain ⟨i0, hi0, hz0, hz1, hz2⟩ := info_parts Try.infoInt
  go_enter Try.func84, Try.ntmps84
  go_wp2
  clear hmk
  go_loopw [4, 5] (fun a b wr => ∃ (k : Nat) (st : List Nat) (L : Nat → Nat) (g cap : Nat), k ≤ s.size ∧ b = .int .i64 k ∧ a = .slice (some ⟨g, 0, none⟩) st.length cap ∧ st.length ≤ k ∧ wr.ownsRow (w.heap.size + 1) 3 1 (.slice (some ⟨g, 0, none⟩) st.length cap) st.length (natsV st.reverse) ∧ Blk wr w.heap.size s.size (fun i => .int .i64 ((L i : Nat) : Int)) ∧ (∀ q ∈ st, q < k) ∧ ldRun s.data.toList 0 ([], fun _ => 0) = ldRun (s.data.toList.drop k) k (st, L) ∧ Below w.heap.size w wr) (fun _ b _ => s.size - (intOf b).toNat)
  case atStart =>
    refine ⟨0, [], fun _ => 0, w.heap.size + 1, 0, by omega, rfl, rfl, by simp, ⟨rfl, .inr ⟨w.heap.size + 1, 0, #[], rfl, by omega, heap_alloc2_new _ _ _, by simp, Nat.zero_le _, rfl, rfl⟩⟩, ⟨_, _, heap_alloc2_old _ _ _, fun i hi => ?_⟩, by simp, by simp, ((Below.refl _ _).alloc (Nat.le_refl _) _).alloc (by simp) _⟩
    rw [madeCells_at _ _ _ hi]
    show some ((#[Value.int .i64 0])[i % 1]!) = _
    rw [Nat.mod_one]; rfl
  case round =>
    obtain ⟨k, st, L, g, cap, hk, rfl, rfl, hst, hown, hblk, hlt', hrun, hbe⟩ := hrel
    have HO := hide hown
    have HBK := hide hblk
    have HQ := hide hlt'
    have HR := hide hrun
    have HB := hide hbe
    have HOB := own_block hown
    have hcapl : cap ≤ 2 ^ 63 - 1 := HOB.2.2.2
    clear hown hblk hlt' hrun hbe
    by_cases hlt : k < s.size
    · have HS := hide (fun z => ldRun_step s k z hlt)
      have b0 := Wd.at_lo s.data.toList k
      have b1 := Wd.at_hi s.data.toList k
      rw [← Wd.at_str s k hlt] at b0 b1
      by_cases hpl : ((s[k].toNat : Nat) : Int) ≠ 40 ∧ ((s[k].toNat : Nat) : Int) ≠ 91 ∧ ((s[k].toNat : Nat) : Int) ≠ 124 ∧ ((s[k].toNat : Nat) : Int) ≠ 41 ∧ ((s[k].toNat : Nat) : Int) ≠ 93
      · have HN : Hid (ldStep k ((s[k].toNat : Nat) : Int) (st, L) = (st, L)) := ldStep_plain k (st, L) hpl
        have n124 : (((s[k].toNat : Nat) : Int) == 124) = false := by simp; omega
        have n41 : (((s[k].toNat : Nat) : Int) == 41) = false := by simp; omega
        have n93 : (((s[k].toNat : Nat) : Int) == 93) = false := by simp; omega
        have n40 : (((s[k].toNat : Nat) : Int) == 40) = false := by simp; omega
        have n91 : (((s[k].toNat : Nat) : Int) == 91) = false := by simp; omega
        clear hpl
        go_wp2
        all_goals (refine ⟨⟨k + 1, st, L, g, cap, by omega, by go_num, rfl, by omega, HO.out, HBK.out, fun q hq => by have := HQ.out q hq; omega, by rw [HR.out, HS.out, HN.out], HB.out⟩, by simp [intOf]; omega⟩)
      by_cases hch : ((s[k].toNat : Nat) : Int) = 40
      · have HN : Hid (ldStep k ((s[k].toNat : Nat) : Int) (st, L) = (k :: st, L)) := ldStep_open (by omega)
        have n124 : (((s[k].toNat : Nat) : Int) == 124) = false := by rw [hch]; rfl
        have n41 : (((s[k].toNat : Nat) : Int) == 41) = false := by rw [hch]; rfl
        have n93 : (((s[k].toNat : Nat) : Int) == 93) = false := by rw [hch]; rfl
        have n40 : (((s[k].toNat : Nat) : Int) == 40) = true := by rw [hch]; rfl
        have n91 : (((s[k].toNat : Nat) : Int) == 91) = false := by rw [hch]; rfl
        clear hch hpl
        go_wp2_with ((at_builtin; refine wpList_append_own _ rfl _ _ 32 rfl (w.heap.size + 1) 3 i0 (.int .i64 0) 1 8 Try.underlying32 hi0 hz0 hz1 hz2 rfl (by decide) _ _ _ rfl (HO.out.alloc _) ⟨_, 0, none⟩ 1 1 [.int .i64 (k : Int)] rfl rfl (cell_one_new _ _ _) (fun x hx => by simp at hx; subst hx; rfl) (by unfold maxLen; omega) (by omega) (by first | (simp; omega) | (simp [World.setCell]; omega)) ?_; intro v' w5 hown' hgrow5 hnil5; obtain ⟨g', cap', rfl⟩ := own_some hown' (fun e => by have h9 := (hnil5.1 e).1; cases h9); have HG := hide hgrow5; have HW := hide hown'; clear hgrow5 hown' hnil5))
        all_goals (
          refine ⟨⟨k + 1, k :: st, L, g', cap', by omega, by go_num, rfl, by first | omega | (simp; done) | (simp; omega), ?_, ?_, fun x hx => ?_, by rw [HR.out, HS.out, HN.out], ?_⟩, by simp [intOf]; omega⟩
          · have := HW.out
            rw [List.reverse_cons, natsV_snoc]; exact this
          · refine HBK.out.same ?_
            rw [HG.out.block w.heap.size (by simp; omega) (fun e => by have := (HO.out.lt _ e.symm).1; omega), heap_alloc_old _ _ (by first | omega | (simp; omega) | (simp [World.setCell]; omega))]
          · simp only [List.mem_cons, List.not_mem_nil, or_false] at hx
            rcases hx with rfl | hx
            · omega
            · have := HQ.out x hx; omega
          · exact (HB.out.alloc HB.out.size _).grown HG.out (by have := HB.out.size; simp; omega) (fun x hx => by have := (HO.out.lt x hx).1; omega))
      by_cases hch : ((s[k].toNat : Nat) : Int) = 91
      · have HN : Hid (ldStep k ((s[k].toNat : Nat) : Int) (st, L) = (k :: st, L)) := ldStep_open (by omega)
        have n124 : (((s[k].toNat : Nat) : Int) == 124) = false := by rw [hch]; rfl
        have n41 : (((s[k].toNat : Nat) : Int) == 41) = false := by rw [hch]; rfl
        have n93 : (((s[k].toNat : Nat) : Int) == 93) = false := by rw [hch]; rfl
        have n40 : (((s[k].toNat : Nat) : Int) == 40) = false := by rw [hch]; rfl
        have n91 : (((s[k].toNat : Nat) : Int) == 91) = true := by rw [hch]; rfl
        clear hch hpl
        go_wp2_with ((at_builtin; refine wpList_append_own _ rfl _ _ 32 rfl (w.heap.size + 1) 3 i0 (.int .i64 0) 1 8 Try.underlying32 hi0 hz0 hz1 hz2 rfl (by decide) _ _ _ rfl (HO.out.alloc _) ⟨_, 0, none⟩ 1 1 [.int .i64 (k : Int)] rfl rfl (cell_one_new _ _ _) (fun x hx => by simp at hx; subst hx; rfl) (by unfold maxLen; omega) (by omega) (by first | (simp; omega) | (simp [World.setCell]; omega)) ?_; intro v' w5 hown' hgrow5 hnil5; obtain ⟨g', cap', rfl⟩ := own_some hown' (fun e => by have h9 := (hnil5.1 e).1; cases h9); have HG := hide hgrow5; have HW := hide hown'; clear hgrow5 hown' hnil5))
        all_goals (
          refine ⟨⟨k + 1, k :: st, L, g', cap', by omega, by go_num, rfl, by first | omega | (simp; done) | (simp; omega), ?_, ?_, fun x hx => ?_, by rw [HR.out, HS.out, HN.out], ?_⟩, by simp [intOf]; omega⟩
          · have := HW.out
            rw [List.reverse_cons, natsV_snoc]; exact this
          · refine HBK.out.same ?_
            rw [HG.out.block w.heap.size (by simp; omega) (fun e => by have := (HO.out.lt _ e.symm).1; omega), heap_alloc_old _ _ (by first | omega | (simp; omega) | (simp [World.setCell]; omega))]
          · simp only [List.mem_cons, List.not_mem_nil, or_false] at hx
            rcases hx with rfl | hx
            · omega
            · have := HQ.out x hx; omega
          · exact (HB.out.alloc HB.out.size _).grown HG.out (by have := HB.out.size; simp; omega) (fun x hx => by have := (HO.out.lt x hx).1; omega))
      by_cases hch : ((s[k].toNat : Nat) : Int) = 41
      · cases st with
        | nil =>
          have HN : Hid (ldStep k ((s[k].toNat : Nat) : Int) ([], L) = ([], L)) := ldStep_close0 (by omega)
          have n124 : (((s[k].toNat : Nat) : Int) == 124) = false := by rw [hch]; rfl
          have n41 : (((s[k].toNat : Nat) : Int) == 41) = true := by rw [hch]; rfl
          have n93 : (((s[k].toNat : Nat) : Int) == 93) = false := by rw [hch]; rfl
          have n40 : (((s[k].toNat : Nat) : Int) == 40) = false := by rw [hch]; rfl
          have n91 : (((s[k].toNat : Nat) : Int) == 91) = false := by rw [hch]; rfl
          clear hch hpl
          go_wp2
          all_goals (refine ⟨⟨k + 1, [], L, g, cap, by omega, by go_num, rfl, by simp, HO.out, HBK.out, by simp, by rw [HR.out, HS.out, HN.out], HB.out⟩, by simp [intOf]; omega⟩)
        | cons q r =>
          have HN : Hid (ldStep k ((s[k].toNat : Nat) : Int) (q :: r, L) = (r, fun x => if x = k then q else if x = q then k + 1 else L x)) := ldStep_close (by omega)
          have hrl : r.length + 1 ≤ k := hst
          have hrl : r.length + 1 ≤ k := hst
          have qk : q < k := HQ.out q (by simp)
          have r1 : wr.cell? ⟨g, r.length, none⟩ = some (.int .i64 (q : Int)) := by
            have := HO.out.cells (g := g) rfl r.length _ (natsV_last q r)
            rw [Addr.add_mid, Nat.zero_add] at this; exact this
          have hwl : IntKind.i64.wrap (((r.length + 1 : Nat) : Int) - 1) = (r.length : Int) := by rw [IntKind.wrap_i64]; omega
          have p1 : wr.cell? ⟨w.heap.size, q, none⟩ = some (.int .i64 ((L q : Nat) : Int)) := HBK.out.cell q (by omega)
          have p2 : wr.cell? ⟨w.heap.size, k, none⟩ = some (.int .i64 ((L k : Nat) : Int)) := HBK.out.cell k (by omega)
          have p3 := HBK.out.frozen q
          have p4 := HBK.out.frozen k
          have hqk : q ≠ k := by omega
          have HO2 := hide (own_set (own_set (own_cut HO.out) ⟨w.heap.size, q, none⟩ (by simp) (.int .i64 ((k : Int) + 1))) ⟨w.heap.size, k, none⟩ (by simp) (.int .i64 (q : Int)))
          rw [natsV_cut] at HO2
          have HBK2 := hide (HBK.out.two (i := k) (q := q))
          have HB2 := hide ((HB.out.setCell (p := ⟨w.heap.size, q, none⟩) (Nat.le_refl _) (.int .i64 ((k : Int) + 1))).setCell (p := ⟨w.heap.size, k, none⟩) (Nat.le_refl _) (.int .i64 (q : Int)))
          have n124 : (((s[k].toNat : Nat) : Int) == 124) = false := by rw [hch]; rfl
          have n41 : (((s[k].toNat : Nat) : Int) == 41) = true := by rw [hch]; rfl
          have n93 : (((s[k].toNat : Nat) : Int) == 93) = false := by rw [hch]; rfl
          have n40 : (((s[k].toNat : Nat) : Int) == 40) = false := by rw [hch]; rfl
          have n91 : (((s[k].toNat : Nat) : Int) == 91) = false := by rw [hch]; rfl
          simp only [List.length_cons] at hst HOB ⊢
          clear hch hpl
          go_wp2
          all_goals (refine ⟨⟨k + 1, r, fun x => if x = k then q else if x = q then k + 1 else L x, g, cap, by omega, by go_num, rfl, by omega, HO2.out, HBK2.out, fun x hx => by have := HQ.out x (by simp [hx]); omega, by rw [HR.out, HS.out, HN.out], HB2.out⟩, by simp [intOf]; omega⟩)
      by_cases hch : ((s[k].toNat : Nat) : Int) = 93
      · cases st with
        | nil =>
          have HN : Hid (ldStep k ((s[k].toNat : Nat) : Int) ([], L) = ([], L)) := ldStep_close0 (by omega)
          have n124 : (((s[k].toNat : Nat) : Int) == 124) = false := by rw [hch]; rfl
          have n41 : (((s[k].toNat : Nat) : Int) == 41) = false := by rw [hch]; rfl
          have n93 : (((s[k].toNat : Nat) : Int) == 93) = true := by rw [hch]; rfl
          have n40 : (((s[k].toNat : Nat) : Int) == 40) = false := by rw [hch]; rfl
          have n91 : (((s[k].toNat : Nat) : Int) == 91) = false := by rw [hch]; rfl
          clear hch hpl
          go_wp2
          all_goals (refine ⟨⟨k + 1, [], L, g, cap, by omega, by go_num, rfl, by simp, HO.out, HBK.out, by simp, by rw [HR.out, HS.out, HN.out], HB.out⟩, by simp [intOf]; omega⟩)
        | cons q r =>
          have HN : Hid (ldStep k ((s[k].toNat : Nat) : Int) (q :: r, L) = (r, fun x => if x = k then q else if x = q then k + 1 else L x)) := ldStep_close (by omega)
          have hrl : r.length + 1 ≤ k := hst
          have hrl : r.length + 1 ≤ k := hst
          have qk : q < k := HQ.out q (by simp)
          have r1 : wr.cell? ⟨g, r.length, none⟩ = some (.int .i64 (q : Int)) := by
            have := HO.out.cells (g := g) rfl r.length _ (natsV_last q r)
            rw [Addr.add_mid, Nat.zero_add] at this; exact this
          have hwl : IntKind.i64.wrap (((r.length + 1 : Nat) : Int) - 1) = (r.length : Int) := by rw [IntKind.wrap_i64]; omega
          have p1 : wr.cell? ⟨w.heap.size, q, none⟩ = some (.int .i64 ((L q : Nat) : Int)) := HBK.out.cell q (by omega)
          have p2 : wr.cell? ⟨w.heap.size, k, none⟩ = some (.int .i64 ((L k : Nat) : Int)) := HBK.out.cell k (by omega)
          have p3 := HBK.out.frozen q
          have p4 := HBK.out.frozen k
          have hqk : q ≠ k := by omega
          have HO2 := hide (own_set (own_set (own_cut HO.out) ⟨w.heap.size, q, none⟩ (by simp) (.int .i64 ((k : Int) + 1))) ⟨w.heap.size, k, none⟩ (by simp) (.int .i64 (q : Int)))
          rw [natsV_cut] at HO2
          have HBK2 := hide (HBK.out.two (i := k) (q := q))
          have HB2 := hide ((HB.out.setCell (p := ⟨w.heap.size, q, none⟩) (Nat.le_refl _) (.int .i64 ((k : Int) + 1))).setCell (p := ⟨w.heap.size, k, none⟩) (Nat.le_refl _) (.int .i64 (q : Int)))
          have n124 : (((s[k].toNat : Nat) : Int) == 124) = false := by rw [hch]; rfl
          have n41 : (((s[k].toNat : Nat) : Int) == 41) = false := by rw [hch]; rfl
          have n93 : (((s[k].toNat : Nat) : Int) == 93) = true := by rw [hch]; rfl
          have n40 : (((s[k].toNat : Nat) : Int) == 40) = false := by rw [hch]; rfl
          have n91 : (((s[k].toNat : Nat) : Int) == 91) = false := by rw [hch]; rfl
          simp only [List.length_cons] at hst HOB ⊢
          clear hch hpl
          go_wp2
          all_goals (refine ⟨⟨k + 1, r, fun x => if x = k then q else if x = q then k + 1 else L x, g, cap, by omega, by go_num, rfl, by omega, HO2.out, HBK2.out, fun x hx => by have := HQ.out x (by simp [hx]); omega, by rw [HR.out, HS.out, HN.out], HB2.out⟩, by simp [intOf]; omega⟩)
      by_cases hch : ((s[k].toNat : Nat) : Int) = 124
      · cases st with
        | nil =>
          have HN : Hid (ldStep k ((s[k].toNat : Nat) : Int) ([], L) = ([k], L)) := by rw [hch]; exact ldStep_bar0
          have n124 : (((s[k].toNat : Nat) : Int) == 124) = true := by rw [hch]; rfl
          have n41 : (((s[k].toNat : Nat) : Int) == 41) = false := by rw [hch]; rfl
          have n93 : (((s[k].toNat : Nat) : Int) == 93) = false := by rw [hch]; rfl
          have n40 : (((s[k].toNat : Nat) : Int) == 40) = false := by rw [hch]; rfl
          have n91 : (((s[k].toNat : Nat) : Int) == 91) = false := by rw [hch]; rfl
          clear hch hpl
          go_wp2_with ((at_builtin; refine wpList_append_own _ rfl _ _ 32 rfl (w.heap.size + 1) 3 i0 (.int .i64 0) 1 8 Try.underlying32 hi0 hz0 hz1 hz2 rfl (by decide) _ _ _ rfl (HO.out.alloc _) ⟨_, 0, none⟩ 1 1 [.int .i64 (k : Int)] rfl rfl (cell_one_new _ _ _) (fun x hx => by simp at hx; subst hx; rfl) (by unfold maxLen; omega) (by omega) (by first | (simp; omega) | (simp [World.setCell]; omega)) ?_; intro v' w5 hown' hgrow5 hnil5; obtain ⟨g', cap', rfl⟩ := own_some hown' (fun e => by have h9 := (hnil5.1 e).1; cases h9); have HG := hide hgrow5; have HW := hide hown'; clear hgrow5 hown' hnil5))
          all_goals (
            refine ⟨⟨k + 1, [k], L, g', cap', by omega, by go_num, rfl, by first | omega | (simp; done) | (simp; omega), ?_, ?_, fun x hx => ?_, by rw [HR.out, HS.out, HN.out], ?_⟩, by simp [intOf]; omega⟩
            · have := HW.out
              rw [List.reverse_cons, natsV_snoc]; exact this
            · refine HBK.out.same ?_
              rw [HG.out.block w.heap.size (by simp; omega) (fun e => by have := (HO.out.lt _ e.symm).1; omega), heap_alloc_old _ _ (by first | omega | (simp; omega) | (simp [World.setCell]; omega))]
            · simp only [List.mem_cons, List.not_mem_nil, or_false] at hx
              omega
            · exact (HB.out.alloc HB.out.size _).grown HG.out (by have := HB.out.size; simp; omega) (fun x hx => by have := (HO.out.lt x hx).1; omega))
        | cons q r =>
          have HN : Hid (ldStep k ((s[k].toNat : Nat) : Int) (q :: r, L) = (k :: r, fun x => if x = k then q else if x = q then k + 1 else L x)) := by rw [hch]; exact ldStep_bar
          have hrl : r.length + 1 ≤ k := hst
          have hrl : r.length + 1 ≤ k := hst
          have qk : q < k := HQ.out q (by simp)
          have r1 : wr.cell? ⟨g, r.length, none⟩ = some (.int .i64 (q : Int)) := by
            have := HO.out.cells (g := g) rfl r.length _ (natsV_last q r)
            rw [Addr.add_mid, Nat.zero_add] at this; exact this
          have hwl : IntKind.i64.wrap (((r.length + 1 : Nat) : Int) - 1) = (r.length : Int) := by rw [IntKind.wrap_i64]; omega
          have p1 : wr.cell? ⟨w.heap.size, q, none⟩ = some (.int .i64 ((L q : Nat) : Int)) := HBK.out.cell q (by omega)
          have p2 : wr.cell? ⟨w.heap.size, k, none⟩ = some (.int .i64 ((L k : Nat) : Int)) := HBK.out.cell k (by omega)
          have p3 := HBK.out.frozen q
          have p4 := HBK.out.frozen k
          have hqk : q ≠ k := by omega
          have HO2 := hide (own_set (own_set (own_cut HO.out) ⟨w.heap.size, q, none⟩ (by simp) (.int .i64 ((k : Int) + 1))) ⟨w.heap.size, k, none⟩ (by simp) (.int .i64 (q : Int)))
          rw [natsV_cut] at HO2
          have HBK2 := hide (HBK.out.two (i := k) (q := q))
          have HB2 := hide ((HB.out.setCell (p := ⟨w.heap.size, q, none⟩) (Nat.le_refl _) (.int .i64 ((k : Int) + 1))).setCell (p := ⟨w.heap.size, k, none⟩) (Nat.le_refl _) (.int .i64 (q : Int)))
          have n124 : (((s[k].toNat : Nat) : Int) == 124) = true := by rw [hch]; rfl
          have n41 : (((s[k].toNat : Nat) : Int) == 41) = false := by rw [hch]; rfl
          have n93 : (((s[k].toNat : Nat) : Int) == 93) = false := by rw [hch]; rfl
          have n40 : (((s[k].toNat : Nat) : Int) == 40) = false := by rw [hch]; rfl
          have n91 : (((s[k].toNat : Nat) : Int) == 91) = false := by rw [hch]; rfl
          simp only [List.length_cons] at hst HOB ⊢
          clear hch hpl
          go_wp2_with ((at_builtin; refine wpList_append_own _ rfl _ _ 32 rfl (w.heap.size + 1) 3 i0 (.int .i64 0) 1 8 Try.underlying32 hi0 hz0 hz1 hz2 rfl (by decide) _ _ _ rfl (HO2.out.alloc _) ⟨_, 0, none⟩ 1 1 [.int .i64 (k : Int)] rfl rfl (cell_one_at (by simp [World.setCell]) _ _) (fun x hx => by simp at hx; subst hx; rfl) (by unfold maxLen; omega) (by omega) (by first | (simp; omega) | (simp [World.setCell]; omega)) ?_; intro v' w5 hown' hgrow5 hnil5; obtain ⟨g', cap', rfl⟩ := own_some hown' (fun e => by have h9 := (hnil5.1 e).1; cases h9); have HG := hide hgrow5; have HW := hide hown'; clear hgrow5 hown' hnil5))
          all_goals (
            refine ⟨⟨k + 1, k :: r, fun x => if x = k then q else if x = q then k + 1 else L x, g', cap', by omega, by go_num, rfl, by first | omega | (simp; done) | (simp; omega), ?_, ?_, fun x hx => ?_, by rw [HR.out, HS.out, HN.out], ?_⟩, by simp [intOf]; omega⟩
            · have := HW.out
              rw [List.reverse_cons, natsV_snoc]; exact this
            · refine HBK2.out.same ?_
              rw [HG.out.block w.heap.size (by first | (simp; omega) | (simp [World.setCell]; omega)) (fun e => by have := (HO2.out.lt _ e.symm).1; omega), heap_alloc_old _ _ (by first | omega | (simp; omega) | (simp [World.setCell]; omega))]
            · simp only [List.mem_cons] at hx
              rcases hx with rfl | hx
              · omega
              · have := HQ.out x (by simp [hx]); omega
            · exact (HB2.out.alloc HB2.out.size _).grown HG.out (by first | (simp; omega) | (simp [World.setCell]; omega)) (fun x hx => by have := (HO2.out.lt x hx).1; omega))
      exfalso; omega
    · go_wp2
      go_ret
      refine ⟨_, rfl, Nat.le_refl _, HBK.out.congr fun i hi => ?_, HB.out⟩
      have e : leads s.data.toList = L := by unfold leads; rw [HR.out, ldRun_end s k _ (by omega)]
      rw [e]
end Go.Proofs.Ytecmfdkhcffpmab
