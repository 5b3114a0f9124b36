/- MacO, Pure3. -/
import Derived.Test.YtecmfdkhcffpmaaB11
import Derived.Test.YtecmfdkhcffpmaaB12
import Derived.Test.YtecmfdkhcffpmaaB05
/- Contracts of the document's machine: a step, whole; an item comes. -/
namespace Go.Proofs.Ytecmfdkhcffpmaa
open Go.RowKit
set_option linter.unusedSimpArgs false
set_option linter.unusedVariables false
set_option maxHeartbeats 8000000
open Mc

theorem step_any (w : World) (N b : Nat) (A : Ad) (its : List Wd.It) (n : Nat) (S : Ma) (c : Nat) (second : Bool) (h : DM w N b A its n S) (ho : ItsOK its) (hi : Inv its n S) (hn : n ≤ 3) (hc : c < n) :
    Calls Try.prog 83 #[.pointer (some ⟨b, 0, none⟩), .int .i64 c, .bool second] w fun e w' => e = .returned (.int .u8 (Mc.step its S n c second).1) ∧ DM w' N b A its n (Mc.step its S n c second).2 ∧ Kp A w w' := by
  rcases hwk : works S c with ⟨th, fi, fp, fh⟩
  cases th with
  | false => exact step_none w N b A its n S c second h hn hc fi fp fh hwk
  | true =>
    by_cases h101 : atB (bodyOf its fi) fp = 101
    · by_cases hb : 0 < fh ∨ ((S.cp c).off && !(S.cp c).h.there) = true
      · exact step_E w N b A its n S c second h ho hi hn hc fi fp fh hwk h101 hb
      · exact step_e w N b A its n S c second h ho hi hn hc fi fp fh hwk h101 hb
    by_cases h43 : atB (bodyOf its fi) fp = 43
    · exact step_p w N b A its n S c second h ho hi hn hc fi fp fh hwk h43
    by_cases h122 : atB (bodyOf its fi) fp = 122
    · by_cases hb : (S.cp c).h.there = true ∨ 0 < fh ∨ ((S.cp c).off && !(S.cp c).h.there) = true
      · exact step_S w N b A its n S c second h ho hi hn hc fi fp fh hwk h122 hb
      · exact step_z w N b A its n S c second h ho hi hn hc fi fp fh hwk h122 hb
    by_cases h114 : atB (bodyOf its fi) fp = 114
    · cases hcl : clash its S n c ⟨true, fi, fp, fh⟩
      · exact step_r w N b A its n S c second h ho hi hn hc fi fp fh hwk h114 hcl
      · exact step_R w N b A its n S c second h ho hi hn hc fi fp fh hwk h114 hcl
    by_cases h119 : atB (bodyOf its fi) fp = 119
    · cases hcl : clash its S n c ⟨true, fi, fp, fh⟩
      · exact step_w w N b A its n S c second h ho hi hn hc fi fp fh hwk h119 hcl
      · exact step_Rw w N b A its n S c second h ho hi hn hc fi fp fh hwk h119 hcl
    exact step_else w N b A its n S c second h ho hi hn hc fi fp fh hwk h101 h43 h122 h114 h119

set_option maxRecDepth 100000 in
theorem comes_any (w : World) (N b : Nat) (A : Ad) (its : List Wd.It) (n : Nat) (S : Ma) (c i : Nat) (h : DM w N b A its n S) (hn : n ≤ 3) (hc : c < n) (hi : i ≤ 255) :
    Calls Try.prog 84 #[.pointer (some ⟨b, 0, none⟩), .int .i64 c, .int .i64 i] w fun e w' => e = .returned (.int .u8 (comes its S c i).1) ∧ DM w' N b A its n (comes its S c i).2 ∧ Kp A w w' := by
  have CA := h.caps
  unfold maxLen at CA
  have HM := hide h
  have r0 : w.cell? ⟨b, 0, none⟩ = some (.slice A.ai its.length A.ci) := h.root.cell 0 (by omega)
  have r1 : w.cell? ⟨b, 1, none⟩ = some (.slice (some ⟨A.g1, 0, none⟩) n A.c1) := h.root.cell 1 (by omega)
  have q0 : w.cell? ⟨A.g1, c * 9, none⟩ = some (.bool (S.cp c).t.there) := h.cpAt c 0 hc (by omega)
  have q4 : w.cell? ⟨A.g1, c * 9 + 4, none⟩ = some (.bool (S.cp c).h.there) := h.cpAt c 4 hc (by omega)
  have q8 : w.cell? ⟨A.g1, c * 9 + 8, none⟩ = some (.bool (S.cp c).off) := h.cpAt c 8 hc (by omega)
  by_cases hlt : i < its.length
  · obtain ⟨g, hg, _, b0⟩ := h.bodyAt i hlt
    rw [hg] at r0
    have HG := hide hg
    clear hg
    cases hh : (S.cp c).h.there
    · rw [hh] at q4
      cases hk : isH its i
      · rw [hk] at b0
        obtain ⟨g2, hg2, hr, _⟩ := h.ready (by omega)
        have r2 : w.cell? ⟨b, 2, none⟩ = some (.slice (some ⟨g2, 0, none⟩) its.length A.c2) := by rw [h.root.cell 2 (by omega), ← hg2]; rfl
        have p0 : w.cell? ⟨g2, i, none⟩ = some (.bool (S.rd i)) := hr.cell _ hlt
        have p1 : w.frozen? ⟨g2, i, none⟩ = false := hr.frozen _
        cases ht : (S.cp c).t.there
        · rw [ht] at q0
          cases hrd : S.rd i
          · rw [hrd] at p0
            have e : comes its S c i = (95, S) := by simp [comes, hh, hk, ht, hrd, hlt]
            rw [e]
            clear e h hh hk ht hrd hr hg2
            go_enter Try.func84, Try.ntmps84
            go_wp2
            go_ret
            exact ⟨rfl, HM.out, Kp.refl A w⟩
          · rw [hrd] at p0
            have e : comes its S c i = (116, setCp (setRd S i false) c { (S.cp c) with t := ⟨true, i, S.pl i, 0⟩ }) := by simp [comes, hh, hk, ht, hrd, hlt]
            rw [e]
            have HM1 := hide (h.rdSet g2 hg2 i false)
            have HK1 := hide ((Kp.refl A w).set2 hg2 i (.bool false))
            clear e h hh hk ht hrd hr hg2
            go_enter Try.func84, Try.ntmps84
            go_wp2_with fail
            clear r0 r1 r2 q0 q4 q8 p0 p1 b0
            generalize w.setCell ⟨g2, i, none⟩ (.bool false) = W at *
            have r1 : W.cell? ⟨b, 1, none⟩ = some (.slice (some ⟨A.g1, 0, none⟩) n A.c1) := HM1.out.root.cell 1 (by omega)
            have r3 : W.cell? ⟨b, 3, none⟩ = some (.slice (some ⟨A.g3, 0, none⟩) its.length A.c3) := HM1.out.root.cell 3 (by omega)
            have p1 : W.cell? ⟨A.g3, i, none⟩ = some (.int .i64 (S.pl i : Int)) := HM1.out.at_.cell _ hlt
            obtain ⟨v0, q0⟩ : ∃ v, W.cell? ⟨A.g1, c * 9, none⟩ = some v := ⟨_, HM1.out.cpAt c 0 hc (by omega)⟩
            obtain ⟨v1, q1⟩ : ∃ v, W.cell? ⟨A.g1, c * 9 + 1, none⟩ = some v := ⟨_, HM1.out.cpAt c 1 hc (by omega)⟩
            obtain ⟨v2, q2⟩ : ∃ v, W.cell? ⟨A.g1, c * 9 + 2, none⟩ = some v := ⟨_, HM1.out.cpAt c 2 hc (by omega)⟩
            obtain ⟨v3, q3⟩ : ∃ v, W.cell? ⟨A.g1, c * 9 + 3, none⟩ = some v := ⟨_, HM1.out.cpAt c 3 hc (by omega)⟩
            have f0 : W.frozen? ⟨A.g1, c * 9, none⟩ = false := HM1.out.cpFro c 0
            have f1 : W.frozen? ⟨A.g1, c * 9 + 1, none⟩ = false := HM1.out.cpFro c 1
            have f2 : W.frozen? ⟨A.g1, c * 9 + 2, none⟩ = false := HM1.out.cpFro c 2
            have f3 : W.frozen? ⟨A.g1, c * 9 + 3, none⟩ = false := HM1.out.cpFro c 3
            go_region
            all_goals go_wp2
            all_goals (go_ret; exact ⟨rfl, (HM1.out.setT c ⟨true, i, S.pl i, 0⟩).drew, (HK1.out.sets1 (c * 9) (frV ⟨true, i, S.pl i, 0⟩)).drew⟩)
        · rw [ht] at q0
          have e : comes its S c i = (95, S) := by simp [comes, hh, hk, ht, hlt]
          rw [e]
          clear e h hh hk ht hr hg2
          go_enter Try.func84, Try.ntmps84
          go_wp2
          go_ret
          exact ⟨rfl, HM.out, Kp.refl A w⟩
      · rw [hk] at b0
        cases hof : (S.cp c).off
        · rw [hof] at q8
          have e : comes its S c i = (104, setCp S c { (S.cp c) with h := ⟨true, i, 0, 0⟩ }) := by simp [comes, hh, hk, hof, hlt]
          rw [e]
          have q5 : w.cell? ⟨A.g1, c * 9 + 4 + 1, none⟩ = some (.int .i64 ((S.cp c).h.item : Int)) := h.cpAt c 5 hc (by omega)
          have q6 : w.cell? ⟨A.g1, c * 9 + 4 + 2, none⟩ = some (.int .i64 ((S.cp c).h.pos : Int)) := h.cpAt c 6 hc (by omega)
          have q7 : w.cell? ⟨A.g1, c * 9 + 4 + 3, none⟩ = some (.int .i64 ((S.cp c).h.held : Int)) := h.cpAt c 7 hc (by omega)
          have f4 : w.frozen? ⟨A.g1, c * 9 + 4, none⟩ = false := h.cpFro c 4
          have f5 : w.frozen? ⟨A.g1, c * 9 + 4 + 1, none⟩ = false := h.cpFro c 5
          have f6 : w.frozen? ⟨A.g1, c * 9 + 4 + 2, none⟩ = false := h.cpFro c 6
          have f7 : w.frozen? ⟨A.g1, c * 9 + 4 + 3, none⟩ = false := h.cpFro c 7
          clear e h hh hk hof
          go_enter Try.func84, Try.ntmps84
          go_wp2
          go_ret
          exact ⟨rfl, HM.out.setH c ⟨true, i, 0, 0⟩, (Kp.refl A w).sets1 (c * 9 + 4) (frV ⟨true, i, 0, 0⟩)⟩
        · rw [hof] at q8
          have e : comes its S c i = (95, S) := by simp [comes, hh, hk, hof, hlt]
          rw [e]
          clear e h hh hk hof
          go_enter Try.func84, Try.ntmps84
          go_wp2
          go_ret
          exact ⟨rfl, HM.out, Kp.refl A w⟩
    · rw [hh] at q4
      have e : comes its S c i = (95, S) := by simp [comes, hh]
      rw [e]
      clear e h hh
      go_enter Try.func84, Try.ntmps84
      go_wp2
      go_ret
      exact ⟨rfl, HM.out, Kp.refl A w⟩
  · have e : comes its S c i = (95, S) := by simp only [comes]; rw [if_pos (Or.inl (by omega))]
    rw [e]
    clear e h
    go_enter Try.func84, Try.ntmps84
    go_wp2
    go_ret
    exact ⟨rfl, HM.out, Kp.refl A w⟩

theorem DM.rangeC {w : World} {N b : Nat} {A : Ad} {its : List Wd.It} {n : Nat} {S : Ma} (h : DM w N b A its n S) (c : Nat) (hc : c < n) : w.rangeAt A.g1 (c * 9) [.bool (S.cp c).t.there, .int .i64 ((S.cp c).t.item : Int), .int .i64 ((S.cp c).t.pos : Int), .int .i64 ((S.cp c).t.held : Int), .bool (S.cp c).h.there, .int .i64 ((S.cp c).h.item : Int), .int .i64 ((S.cp c).h.pos : Int), .int .i64 ((S.cp c).h.held : Int), .bool (S.cp c).off] := by
  refine h.cpus.range _ _ (by simp; omega) fun j hj => ?_
  simp at hj
  rw [cpsF_at S c j (by omega)]
  rcases j with _ | _ | _ | _ | _ | _ | _ | _ | _ | j <;> first | rfl | omega
theorem Try.iCpu : (Try.prog.info? 133).map (·.size) = some 9 := by kernel_rfl
theorem Try.uCpu : ∃ d, Try.prog.underlying 133 = some d ∧ d.isRow = true := ⟨_, Try.underlying133, rfl⟩

theorem cp_one (a c : Bool) (d e f g h i : Int) (j : Bool) : (#[Value.bool a, .int .i64 d, .int .i64 e, .int .i64 f, .bool c, .int .i64 g, .int .i64 h, .int .i64 i, .bool j]).all (·.oneCell') = true := by simp [Value.oneCell']
set_option maxRecDepth 100000 in
theorem command_any (w : World) (N b : Nat) (A : Ad) (its : List Wd.It) (n : Nat) (S : Ma) (c : Nat) (what : Int) (h : DM w N b A its n S) (ho : ItsOK its) (hi : Inv its n S) (hn : n ≤ 3) (hc : c < n) (hw0 : 0 ≤ what) (hw1 : what ≤ 255) (hwo : isOrd what = true) :
    Calls Try.prog 56 #[.pointer (some ⟨b, 0, none⟩), .int .i64 c, .int .u8 what] w fun e w' => e = .returned (.int .u8 (command its S n c what).1) ∧ DM w' N b A its n (command its S n c what).2 ∧ Kp A w w' := by
  have CA := h.caps
  unfold maxLen at CA
  have HM := hide h
  by_cases h46 : what = 46
  · have e : command its S n c what = Mc.step its S n c false := by simp [command, h46]
    rw [e]
    have AS := hide (step_any w N b A its n S c false h ho hi hn hc)
    subst h46
    clear e h
    generalize Mc.step its S n c false = r at *
    go_enter Try.func56, Try.ntmps56
    go_wp2_with (first | (go_at_call 83; refine AS.out.mono ?_; rintro e w2 ⟨rfl, hm2, hk2⟩))
    go_ret
    exact ⟨rfl, hm2, hk2⟩
  by_cases h44 : what = 44
  · have e : command its S n c what = Mc.step its S n c true := by simp [command, h44]
    rw [e]
    have AS := hide (step_any w N b A its n S c true h ho hi hn hc)
    subst h44
    clear e h h46
    generalize Mc.step its S n c true = r at *
    go_enter Try.func56, Try.ntmps56
    go_wp2_with (first | (go_at_call 83; refine AS.out.mono ?_; rintro e w2 ⟨rfl, hm2, hk2⟩))
    go_ret
    exact ⟨rfl, hm2, hk2⟩
  have t46 : (what == 46) = false := by simp [h46]
  have t44 : (what == 44) = false := by simp [h44]
  by_cases h112 : what = 112
  · subst h112
    clear t46 t44 h46 h44
    have r1 : w.cell? ⟨b, 1, none⟩ = some (.slice (some ⟨A.g1, 0, none⟩) n A.c1) := h.root.cell 1 (by omega)
    have RC := hide (h.rangeC c hc)
    obtain ⟨ud, hu, hd⟩ := Try.uCpu
    have HU := hide hu
    have HD := hide hd
    clear hu hd
    cases ht : (S.cp c).t.there
    · rw [ht] at RC
      have e : command its S n c 112 = (95, S) := by simp [command, ht]
      rw [e]
      clear e h ht
      go_enter Try.func56, Try.ntmps56
      go_wp2_with (first | (refine wpList_load_mid rfl _ _ rfl _ _ rfl _ ud RC.out HU.out HD.out Try.iCpu ?_) | (refine wpList_store_row rfl 133 _ _ rfl _ _ rfl rfl 133 _ (heap_alloc_last _ _) Try.iCpu rfl (cp_one _ _ _ _ _ _ _ _ _) ?_; rw [World.setRow_alloc_new]))
      go_ret
      exact ⟨rfl, HM.out.alloc _, (Kp.refl A w).alloc _⟩
    rw [ht] at RC
    cases hh : (S.cp c).h.there
    · rw [hh] at RC
      by_cases hz : 0 < (S.cp c).t.held
      · have hz1 : (0 : Int) < ((S.cp c).t.held : Int) := by omega
        have e : command its S n c 112 = (95, S) := by simp [command, hz]
        rw [e]
        clear e h ht hh hz
        go_enter Try.func56, Try.ntmps56
        go_wp2_with (first | (refine wpList_load_mid rfl _ _ rfl _ _ rfl _ ud RC.out HU.out HD.out Try.iCpu ?_) | (refine wpList_store_row rfl 133 _ _ rfl _ _ rfl rfl 133 _ (heap_alloc_last _ _) Try.iCpu rfl (cp_one _ _ _ _ _ _ _ _ _) ?_; rw [World.setRow_alloc_new]))
        go_ret
        exact ⟨rfl, HM.out.alloc _, (Kp.refl A w).alloc _⟩
      · have hz0 : (S.cp c).t.held = 0 := by omega
        rw [hz0] at RC
        cases hof : (S.cp c).off
        · rw [hof] at RC
          have e : command its S n c 112 = (112, leaves S c (S.cp c).t.pos) := by simp [command, ht, hh, hz0, hof]
          rw [e]
          have AL := hide (fun W (hW : DM W N b A its n S) => leaves_any W N b A its n S c (S.cp c).t.pos hW hc hn ((hi.t c hc).item ht))
          clear e h ht hh hz hz0 hof
          generalize leaves S c (S.cp c).t.pos = R at *
          generalize (S.cp c).t.pos = tp at *
          go_enter Try.func56, Try.ntmps56
          go_wp2_with (first | (refine wpList_load_mid rfl _ _ rfl _ _ rfl _ ud RC.out HU.out HD.out Try.iCpu ?_) | (refine wpList_store_row rfl 133 _ _ rfl _ _ rfl rfl 133 _ (heap_alloc_last _ _) Try.iCpu rfl (cp_one _ _ _ _ _ _ _ _ _) ?_; rw [World.setRow_alloc_new]) | (go_at_call 85; refine (AL.out _ (HM.out.alloc _)).mono ?_; rintro e w2 ⟨rfl, hm2, hk2⟩))
          go_ret
          exact ⟨rfl, hm2, ((Kp.refl A w).alloc _).trans hk2⟩
        · rw [hof] at RC
          have e : command its S n c 112 = (95, S) := by simp [command, hof]
          rw [e]
          clear e h ht hh hz hz0 hof
          go_enter Try.func56, Try.ntmps56
          go_wp2_with (first | (refine wpList_load_mid rfl _ _ rfl _ _ rfl _ ud RC.out HU.out HD.out Try.iCpu ?_) | (refine wpList_store_row rfl 133 _ _ rfl _ _ rfl rfl 133 _ (heap_alloc_last _ _) Try.iCpu rfl (cp_one _ _ _ _ _ _ _ _ _) ?_; rw [World.setRow_alloc_new]))
          go_ret
          exact ⟨rfl, HM.out.alloc _, (Kp.refl A w).alloc _⟩
    · rw [hh] at RC
      have e : command its S n c 112 = (95, S) := by simp [command, hh]
      rw [e]
      clear e h ht hh
      go_enter Try.func56, Try.ntmps56
      go_wp2_with (first | (refine wpList_load_mid rfl _ _ rfl _ _ rfl _ ud RC.out HU.out HD.out Try.iCpu ?_) | (refine wpList_store_row rfl 133 _ _ rfl _ _ rfl rfl 133 _ (heap_alloc_last _ _) Try.iCpu rfl (cp_one _ _ _ _ _ _ _ _ _) ?_; rw [World.setRow_alloc_new]))
      go_ret
      exact ⟨rfl, HM.out.alloc _, (Kp.refl A w).alloc _⟩
  · have e : command its S n c what = comes its S c (what - 48).toNat := by simp [command, h46, h44, h112]
    rw [e]
    have t112 : (what != 112) = true := by simp [h112]
    have hd : 48 ≤ what ∧ what ≤ 55 := by
      simp [isOrd, h46, h44, h112] at hwo; omega
    have AC := hide (comes_any w N b A its n S c (what - 48).toNat h hn hc (by omega))
    have hcast : (((what - 48).toNat : Nat) : Int) = what - 48 := by omega
    rw [hcast] at AC
    have hw8 : IntKind.u8.wrap (what - 48) = what - 48 := by rw [IntKind.wrap_u8]; omega
    clear e h h46 h44 h112 hcast hwo
    generalize comes its S c (what - 48).toNat = r at *
    go_enter Try.func56, Try.ntmps56
    go_wp2_with (first | (go_at_call 84; refine AC.out.mono ?_; rintro e w2 ⟨rfl, hm2, hk2⟩))
    go_ret
    exact ⟨rfl, hm2, hk2⟩
end Go.Proofs.Ytecmfdkhcffpmaa
/- The plain functions, more: which names stand in which function's body; does a function come back to itself. -/
namespace Go.Proofs.Ytecmfdkhcffpmaa
open Go.RowKit
set_option linter.unusedSimpArgs false
set_option linter.unusedVariables false
namespace Wd
/-- Sixty-four truth values in memory. -/
def arr64 (b : Nat → Bool) : Array Value := ((List.range 64).map fun j => Value.bool (b j)).toArray
theorem arr64_size (b : Nat → Bool) : (arr64 b).size = 64 := by simp [arr64]
theorem arr64_at (b : Nat → Bool) (j : Nat) (h : j < 64) : (arr64 b)[j]? = some (.bool (b j)) := by
  simp [arr64, h]
theorem arr64_congr {a b : Nat → Bool} (h : ∀ j, j < 64 → a j = b j) : arr64 a = arr64 b := by
  unfold arr64
  congr 1
  apply List.map_congr_left
  intro j hj
  rw [h j (by simpa using hj)]
theorem arr64_set (b : Nat → Bool) (f : Nat) (v : Bool) (h : f < 64) : (arr64 b).setIfInBounds f (.bool v) = arr64 (fun j => if j = f then v else b j) := by
  apply Array.ext
  · simp [arr64]
  · intro i h1 h2
    rw [Array.getElem_setIfInBounds]
    · simp [arr64]
      by_cases e : f = i
      · subst e; simp
      · simp [e, Ne.symm e, show ¬ i = f from fun x => e x.symm]
    · simpa [arr64] using h1
theorem arr64_one (b : Nat → Bool) : (arr64 b).all (·.oneCell') = true := by
  simp [arr64, Value.oneCell']
/-- Does the function g stand in a body? -/
def callRow (b : List UInt8) (g : Nat) : Bool := b.any fun c => bt c == 65 + (g : Int)
def calls (l : List UInt8) (f g : Nat) : Bool :=
  match head l (65 + (f : Int)) with
  | some i => callRow (body l i) g
  | none => false
def callsTo (l : List UInt8) (n j : Nat) : Bool := decide (j / 8 < n) && calls l (j / 8) (j % 8)
def callsIn (l b : List UInt8) (f k j : Nat) : Bool := if j / 8 = f then callRow (b.take k) (j % 8) else callsTo l f j
theorem callRow_snoc (s : ByteArray) (k g : Nat) (h : k < s.size) : callRow (s.data.toList.take (k + 1)) g = (callRow (s.data.toList.take k) g || (((s[k].toNat : Nat) : Int) == 65 + (g : Int))) := by
  rw [List.take_succ_eq_append_getElem (by rw [len_str]; exact h)]
  simp [callRow, bt]
  rfl
def upd (b : Nat → Bool) (k i j : Nat) : Nat → Bool := fun x => if x = i * 8 + j then (b x || (b (i * 8 + k) && b (k * 8 + j))) else b x
def jLoop (b : Nat → Bool) (k i : Nat) : Nat → Nat → Bool
  | 0 => b
  | j + 1 => upd (jLoop b k i j) k i j
def iLoop (b : Nat → Bool) (k : Nat) : Nat → Nat → Bool
  | 0 => b
  | i + 1 => jLoop (iLoop b k i) k i 8
def kLoop (b : Nat → Bool) : Nat → Nat → Bool
  | 0 => b
  | k + 1 => iLoop (kLoop b k) k 8
def round (l : List UInt8) : Bool := (first (fun i => kLoop (callsTo l 8) 8 (i * 8 + i)) 8).isSome
end Wd
end Go.Proofs.Ytecmfdkhcffpmaa
