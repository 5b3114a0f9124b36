/- PureM3, PureK, SrcF. -/
import Derived.Test.YtecmfdkhcffpmaaB03
import Derived.Test.YtecmfdkhcffpmaaB23
import Derived.Test.YtecmfdkhcffpmaaB18
import Derived.Lib.AppendStr
/- The document's machine, plain: what holds of it goes on holding. -/
namespace Go.Proofs.Ytecmfdkhcffpmaa
open Go.RowKit
set_option linter.unusedSimpArgs false
set_option linter.unusedVariables false
namespace Mc
open Wd

theorem Inv.setCp {its : List It} {n : Nat} {S : Ma} (h : Inv its n S) (c : Nat) (x : Cp) (ht : FrOK its false x.t) (hh : FrOK its true x.h) (ho : x.off = true → x.t.there = true) : Inv its n (setCp S c x) := by
  refine ⟨fun d hd => ?_, fun d hd => ?_, fun d hd => ?_, h.pl⟩ <;> unfold Mc.setCp <;> by_cases e : d = c <;> simp only [e, if_true, if_false]
  · exact ht
  · exact h.t d hd
  · exact hh
  · exact h.h d hd
  · exact ho
  · exact h.off d hd
theorem frOK_no (its : List It) (hd : Bool) : FrOK its hd noFr := ⟨by simp [noFr], by simp [noFr], by simp [noFr], by simp [noFr], fun _ => rfl⟩
theorem Inv.setRd {its : List It} {n : Nat} {S : Ma} (h : Inv its n S) (i : Nat) (b : Bool) : Inv its n (setRd S i b) := ⟨h.t, h.h, h.off, h.pl⟩
theorem Inv.setPl {its : List It} {n : Nat} {S : Ma} (h : Inv its n S) (i p : Nat) (hp : p ≤ (bodyOf its i).length + 1) : Inv its n (setPl S i p) := by
  refine ⟨h.t, h.h, h.off, fun j hj => ?_⟩
  unfold Mc.setPl
  by_cases e : j = i
  · subst e; simp only [if_true]; exact hp
  · simp only [e, if_false]; exact h.pl j hj
theorem Inv.begin_ (its : List It) (n : Nat) : Inv its n (begin_ its) :=
  ⟨fun _ _ => frOK_no its false, fun _ _ => frOK_no its true, fun _ _ h => by simp [Mc.begin_, noCp] at h, fun _ _ => by simp [Mc.begin_]⟩
theorem atB_lt {b : List UInt8} {p : Nat} (h : atB b p ≠ 101) : p < b.length := by
  by_cases e : p < b.length
  · exact e
  · simp [atB, e] at h
theorem behind_le (b : List UInt8) (p : Nat) (second : Bool) (h : p < b.length) : behind b p second ≤ b.length + 1 := by
  unfold behind
  have h1 := ahead_bd b p 124 h
  have h2 := ahead_bd b p 41 h
  have h3 := ahead_bd b p 93 h
  have h4 : back b p ≤ p := backN_le b p 0
  repeat' split
  all_goals omega
theorem bits_add : ∀ h, h < 64 → ∀ l, l < 6 → Nat.testBit h l = false → h + 2 ^ l < 64 := by decide
theorem holderFrom_none (S : Ma) (l : Nat) : ∀ m k, holderFrom S l k m = none → ∀ d, k ≤ d → d < k + m → cpHolds (S.cp d) l = false
  | 0, k, _, d, h1, h2 => by omega
  | m + 1, k, h, d, h1, h2 => by
    unfold holderFrom at h
    split at h
    · cases h
    · by_cases e : d = k
      · subst e; rename_i hh; simpa using hh
      · exact holderFrom_none S l m (k + 1) h d (by omega) (by omega)
theorem holder_none {S : Ma} {n l : Nat} (h : holder S n l = none) (d : Nat) (hd : d < n) : cpHolds (S.cp d) l = false := holderFrom_none S l n 0 h d (by omega) (by omega)
theorem works_nohold {S : Ma} {n l c : Nat} (h : holder S n l = none) (hc : c < n) : holds (works S c).held l = false := by
  have := holder_none h c hc
  unfold cpHolds at this
  rw [Bool.or_eq_false_iff] at this
  unfold works
  split
  · exact this.2
  · exact this.1
theorem works_fr {its : List It} {n : Nat} {S : Ma} (h : Inv its n S) (c : Nat) (hc : c < n) : FrOK its (S.cp c).h.there (works S c) := by
  unfold works
  cases e : (S.cp c).h.there
  · simp; exact h.t c hc
  · simp; exact h.h c hc
theorem Inv.put {its : List It} {n : Nat} {S : Ma} (h : Inv its n S) (c : Nat) (hc : c < n) (f : Fr) (hf : FrOK its (S.cp c).h.there f) (ho : (S.cp c).h.there = false → (S.cp c).off = true → f.there = true) : Inv its n (put S c f) := by
  unfold Mc.put
  refine h.setCp c _ ?_ ?_ ?_ <;> unfold putCp <;> cases e : (S.cp c).h.there <;> simp only [if_true, if_false, Bool.false_eq_true]
  · rw [e] at hf; exact hf
  · exact h.t c hc
  · exact h.h c hc
  · rw [e] at hf; exact hf
  · exact ho e
  · exact h.off c hc
theorem Inv.leaves {its : List It} {n : Nat} {S : Ma} (h : Inv its n S) (c : Nat) (hc : c < n) (p : Nat) (hp : p ≤ (bodyOf its (S.cp c).t.item).length + 1) (ho : (S.cp c).off = false) : Inv its n (leaves S c p) := by
  unfold Mc.leaves
  exact ((h.setRd _ _).setPl _ p hp).setCp c _ (frOK_no its false) (h.h c hc) (fun e => by rw [ho] at e; cases e)

theorem takes_fr {its : List It} {n : Nat} {S : Ma} (hi : Inv its n S) (ho : ItsOK its) (c : Nat) (hc : c < n) (hth : (works S c).there = true) (h43 : atB (bodyOf its (works S c).item) (works S c).pos = 43) (hl : (num (bodyOf its (works S c).item) (works S c).pos).toNat < 6) :
    FrOK its (S.cp c).h.there (takes its S n c (works S c) (num (bodyOf its (works S c).item) (works S c).pos).toNat).2 ∧ (takes its S n c (works S c) (num (bodyOf its (works S c).item) (works S c).pos).toNat).2.there = true := by
  have hf := works_fr hi c hc
  unfold takes
  cases e : holder S n (num (bodyOf its (works S c).item) (works S c).pos).toNat with
  | none =>
    simp only
    have hp : (works S c).pos < (bodyOf its (works S c).item).length := atB_lt (by rw [h43]; decide)
    refine ⟨⟨hf.item, hf.kind, fun _ => by simp only; omega, ?_, fun h => by simp only at h; rw [hth] at h; cases h⟩, hth⟩
    exact bits_add _ hf.held _ hl (works_nohold e hc)
  | some d =>
    simp only
    split
    · exact ⟨hf, hth⟩
    · split
      · exact ⟨hf, hth⟩
      · exact ⟨hf, hth⟩
theorem alone_fr {its : List It} {f : Fr} {hd off second : Bool} (hf : FrOK its hd f) (hth : f.there = true) (hp : f.pos < (bodyOf its f.item).length) :
    FrOK its hd (alone (bodyOf its f.item) f hd off second).2.1 ∧ (alone (bodyOf its f.item) f hd off second).2.1.there = true ∧ ((alone (bodyOf its f.item) f hd off second).2.2 = true → off = true ∨ hd = false) := by
  have hb := behind_le (bodyOf its f.item) f.pos second hp
  unfold alone
  split
  · split
    · refine ⟨⟨hf.item, hf.kind, fun _ => hb, ?_, fun h => by simp only at h; rw [hth] at h; cases h⟩, hth, fun h => Or.inl h⟩
      exact Nat.lt_of_le_of_lt (Nat.sub_le _ _) hf.held
    · exact ⟨hf, hth, fun h => Or.inl h⟩
  · split
    · split
      · exact ⟨hf, hth, fun h => Or.inl h⟩
      · rename_i hn
        refine ⟨⟨hf.item, hf.kind, fun _ => hb, hf.held, fun h => by simp only at h; rw [hth] at h; cases h⟩, hth, fun _ => Or.inr (by simpa using hn)⟩
    · exact ⟨⟨hf.item, hf.kind, fun _ => hb, hf.held, fun h => by simp only at h; rw [hth] at h; cases h⟩, hth, fun h => Or.inl h⟩
theorem put_cp (S : Ma) (c : Nat) (f : Fr) : (put S c f).cp c = putCp (S.cp c) f := by simp [Mc.put, Mc.setCp]
theorem num_lock' {its : List It} (ho : ItsOK its) {i p : Nat} (hi : i < its.length) (h : atB (bodyOf its i) p = 43 ∨ atB (bodyOf its i) p = 45) : (num (bodyOf its i) p).toNat < 6 := by
  have hp : p < (bodyOf its i).length := atB_lt (by rcases h with h | h <;> rw [h] <;> decide)
  simp only [atB, hp, if_true] at h
  obtain ⟨h1, h2, h3⟩ := (ho.pair i hi p hp).1 h
  rw [num, if_pos h1, if_pos h2]; omega
theorem Inv.lone {its : List It} {n : Nat} {S : Ma} (h : Inv its n S) (c : Nat) (hc : c < n) (second : Bool) (hth : (works S c).there = true) (hp : (works S c).pos < (bodyOf its (works S c).item).length) : Inv its n (lone its S c second).2 := by
  obtain ⟨h1, h2, h3⟩ := alone_fr (off := (S.cp c).off) (second := second) (works_fr h c hc) hth hp
  unfold Mc.lone setOff
  simp only
  have hput := h.put c hc _ h1 (fun _ _ => h2)
  refine hput.setCp c _ (hput.t c hc) (hput.h c hc) ?_
  simp only
  intro ho
  rw [put_cp]
  unfold putCp
  cases e : (S.cp c).h.there
  · simp only [if_false, Bool.false_eq_true]; rw [← e]; exact h2
  · simp only [if_true]
    rcases h3 ho with h3 | h3
    · exact h.off c hc h3
    · rw [e] at h3; cases h3
theorem Inv.step {its : List It} {n : Nat} {S : Ma} (h : Inv its n S) (ho : ItsOK its) (c : Nat) (hc : c < n) (second : Bool) : Inv its n (step its S n c second).2 := by
  have hf := works_fr h c hc
  unfold Mc.step
  simp only
  split
  · exact h
  rename_i hth
  have hth : (works S c).there = true := by simpa using hth
  split
  · split
    · exact h
    · rename_i hb
      refine h.put c hc _ (frOK_no its _) fun e1 e2 => ?_
      simp [e1, e2] at hb
  rename_i h101
  have hp := atB_lt h101
  split
  · rename_i h43
    obtain ⟨a1, a2⟩ := takes_fr h ho c hc hth h43 (num_lock' ho (hf.item hth) (Or.inl h43))
    exact h.put c hc _ a1 (fun _ _ => a2)
  split
  · split
    · exact h
    · rename_i h122 hb
      simp only [not_or] at hb
      obtain ⟨b1, b2, b3⟩ := hb
      have e : works S c = (S.cp c).t := by unfold works; rw [if_neg b1]
      refine h.leaves c hc _ ?_ ?_
      · rw [e] at hp ⊢; omega
      · cases e1 : (S.cp c).off
        · rfl
        · simp [e1, b1] at b3
  split
  · exact h
  exact h.lone c hc second hth hp
theorem Inv.comes {its : List It} {n : Nat} {S : Ma} (h : Inv its n S) (c : Nat) (hc : c < n) (i : Nat) : Inv its n (comes its S c i).2 := by
  unfold Mc.comes
  split
  · exact h
  rename_i h1
  simp only [not_or] at h1
  obtain ⟨hl, hh⟩ := h1
  have hl : i < its.length := by omega
  split
  · rename_i hk
    split
    · exact h
    · refine h.setCp c _ (h.t c hc) ⟨fun _ => hl, fun _ => hk, fun _ => by simp, by simp, fun e => by simp at e⟩ (h.off c hc)
  · rename_i hk
    split
    · exact h
    · refine (h.setRd i false).setCp c _ ⟨fun _ => hl, fun _ => by simpa using hk, fun _ => h.pl i hl, by simp, fun e => by simp at e⟩ (h.h c hc) (fun _ => rfl)
theorem Inv.command {its : List It} {n : Nat} {S : Ma} (h : Inv its n S) (ho : ItsOK its) (c : Nat) (hc : c < n) (what : Int) : Inv its n (command its S n c what).2 := by
  unfold Mc.command
  split
  · exact h.step ho c hc _
  split
  · exact h.comes c hc _
  split
  · exact h
  · rename_i hb
    simp only [not_or] at hb
    obtain ⟨b1, b2, b3, b4⟩ := hb
    have ht : (S.cp c).t.there = true := by simpa using b1
    exact h.leaves c hc _ ((h.t c hc).pos ht) (by simpa using b4)
end Mc
end Go.Proofs.Ytecmfdkhcffpmaa
/- Plain: what Run answers. -/
namespace Go.Proofs.Ytecmfdkhcffpmaa
open Go.RowKit
set_option linter.unusedSimpArgs false
set_option linter.unusedVariables false
open Mc
namespace Mc
open Wd
def u8 (t : Int) : UInt8 := UInt8.ofNat t.toNat
theorem bt_u8 {t : Int} (h0 : 0 ≤ t) (h1 : t ≤ 255) : bt (u8 t) = t := by
  unfold bt u8
  rw [UInt8.toNat_ofNat', Nat.mod_eq_of_lt (by omega)]; omega
/-- The trace, in bytes. -/
def traceB (its : List It) (n : Nat) : Ma → List UInt8 → List UInt8
  | S, a :: o :: r => u8 (command its S n (bt a - 48).toNat (bt o)).1 :: (if bad (command its S n (bt a - 48).toNat (bt o)).1 = true then [] else traceB its n (command its S n (bt a - 48).toNat (bt o)).2 r)
  | _, _ => []
theorem alone_letter (b : List UInt8) (f : Fr) (hd off second : Bool) : 0 ≤ (alone b f hd off second).1 ∧ (alone b f hd off second).1 ≤ 255 := by
  have := atB_bd b f.pos
  unfold alone
  repeat' split
  all_goals simp only; omega
theorem step_letter (its : List It) (S : Ma) (n c : Nat) (second : Bool) : 0 ≤ (Mc.step its S n c second).1 ∧ (Mc.step its S n c second).1 ≤ 255 := by
  unfold Mc.step
  simp only
  split
  · simp
  split
  · split <;> simp
  split
  · unfold takes
    repeat' split
    all_goals simp
  split
  · split <;> simp
  split
  · simp
  · exact alone_letter _ _ _ _ _
theorem command_letter (its : List It) (S : Ma) (n c : Nat) (what : Int) : 0 ≤ (command its S n c what).1 ∧ (command its S n c what).1 ≤ 255 := by
  unfold command
  split
  · exact step_letter _ _ _ _ _
  split
  · unfold comes
    repeat' split
    all_goals simp
  split <;> simp
end Mc
end Go.Proofs.Ytecmfdkhcffpmaa
/- Contracts of the program's 'unknownName', 'allDone', 'unfold'. -/
namespace Go.Proofs.Ytecmfdkhcffpmaa
open Go.RowKit
set_option linter.unusedSimpArgs false
set_option linter.unusedVariables false
set_option maxHeartbeats 800000

theorem unknownName_any (s : ByteArray) (F : Nat → Wd.Fn) (v : Value) (b : Nat) (w : World) (hs : s.size ≤ 10000) (hb : w.heap[b]? = some (.cells (Wd.pgA v F) 167 (0, 0))) :
    Calls Try.prog 136 #[.pointer (some ⟨b, 0, none⟩), .string s] w fun e w' => e = .returned (.int .i64 (Wd.toInt (Wd.unknown F s.data.toList))) ∧ w' = w := by
  have HL := hide (Wd.len_str s)
  have HH := hide hb
  clear hb
  go_enter Try.func136, Try.ntmps136
  go_wp2
  go_loop [5] (fun i => ∃ k : Nat, k ≤ s.size ∧ i = .int .i64 k ∧ (∀ j, j < k → Wd.unkP F s.data.toList j = false)) (fun i => s.size - (intOf i).toNat)
  case atStart => exact ⟨0, Nat.zero_le _, rfl, fun j hj => by omega⟩
  case round =>
    obtain ⟨k, hk, rfl, hno⟩ := hrel
    have HN := hide hno
    clear hno
    by_cases hlt : k < s.size
    · have HP := hide (Wd.unkP_str F s k hlt)
      have b0 := Wd.at_lo s.data.toList k
      have b1 := Wd.at_hi s.data.toList k
      rw [← Wd.at_str s k hlt] at b0 b1
      cases hu : Wd.up ((s[k].toNat : Nat) : Int)
      · go_wp2_with (go_at_call 135; refine (isFunction_any _ _ b0 b1).mono ?_; rw [hu]; rintro e w' ⟨rfl, rfl⟩)
        go_round
        case rel => exact ⟨k + 1, by omega, by go_num, fun j hj => by
          by_cases e : j = k
          · subst e; rw [HP.out, hu]; rfl
          · exact HN.out j (by omega)⟩
        case measure => simp [intOf]; omega
      · have hu' := hu
        simp [Wd.up] at hu'
        have c0 : w.cell? ⟨b, 1 + (s[k].toNat - 65) * 5, none⟩ = some (.bool (F (s[k].toNat - 65)).there) := row_cell HH.out (Wd.pgA_at _ F _ 0 (by omega) _ rfl)
        cases ht : (F (s[k].toNat - 65)).there
        · rw [ht] at c0
          go_wp2_with (go_at_call 135; refine (isFunction_any _ _ b0 b1).mono ?_; rw [hu]; rintro e w' ⟨rfl, rfl⟩)
          go_ret
          refine ⟨ret_int ?_, rfl⟩
          rw [Wd.unknown, HL.out, Wd.first_yes hlt (by rw [HP.out, hu, ht]; rfl) HN.out]; rfl
        · rw [ht] at c0
          go_wp2_with (go_at_call 135; refine (isFunction_any _ _ b0 b1).mono ?_; rw [hu]; rintro e w' ⟨rfl, rfl⟩)
          go_round
          case rel => exact ⟨k + 1, by omega, by go_num, fun j hj => by
            by_cases e : j = k
            · subst e; rw [HP.out, hu, ht]; rfl
            · exact HN.out j (by omega)⟩
          case measure => simp [intOf]; omega
    · go_wp2
      go_ret
      refine ⟨ret_int ?_, rfl⟩
      rw [Wd.unknown, HL.out, Wd.first_no (fun j hj => HN.out j (by omega))]; rfl

theorem allDone_any (s : ByteArray) (F : Nat → Wd.Fn) (v : Value) (b : Nat) (w : World) (hs : s.size ≤ 10000) (hb : w.heap[b]? = some (.cells (Wd.pgA v F) 167 (0, 0))) :
    Calls Try.prog 159 #[.pointer (some ⟨b, 0, none⟩), .string s] w fun e w' => e = .returned (.bool (Wd.allDone F s.data.toList)) ∧ w' = w := by
  have HL := hide (Wd.len_str s)
  have HH := hide hb
  clear hb
  go_enter Try.func159, Try.ntmps159
  go_wp2
  go_loop [5] (fun i => ∃ k : Nat, k ≤ s.size ∧ i = .int .i64 k ∧ (∀ j, j < k → Wd.undoneP F s.data.toList j = false)) (fun i => s.size - (intOf i).toNat)
  case atStart => exact ⟨0, Nat.zero_le _, rfl, fun j hj => by omega⟩
  case round =>
    obtain ⟨k, hk, rfl, hno⟩ := hrel
    have HN := hide hno
    clear hno
    by_cases hlt : k < s.size
    · have HP := hide (Wd.undoneP_str F s k hlt)
      have b0 := Wd.at_lo s.data.toList k
      have b1 := Wd.at_hi s.data.toList k
      rw [← Wd.at_str s k hlt] at b0 b1
      cases hu : Wd.up ((s[k].toNat : Nat) : Int)
      · go_wp2_with (go_at_call 135; refine (isFunction_any _ _ b0 b1).mono ?_; rw [hu]; rintro e w' ⟨rfl, rfl⟩)
        go_round
        case rel => exact ⟨k + 1, by omega, by go_num, fun j hj => by
          by_cases e : j = k
          · subst e; rw [HP.out, hu]; rfl
          · exact HN.out j (by omega)⟩
        case measure => simp [intOf]; omega
      · have hu' := hu
        simp [Wd.up] at hu'
        have c0 : w.cell? ⟨b, 1 + (s[k].toNat - 65) * 5 + 2, none⟩ = some (.bool (F (s[k].toNat - 65)).done) := row_cell HH.out (Wd.pgA_at _ F _ 2 (by omega) _ rfl)
        cases ht : (F (s[k].toNat - 65)).done
        · rw [ht] at c0
          go_wp2_with (go_at_call 135; refine (isFunction_any _ _ b0 b1).mono ?_; rw [hu]; rintro e w' ⟨rfl, rfl⟩)
          go_ret
          exact ⟨by rw [Wd.allDone, HL.out, Wd.first_yes hlt (by rw [HP.out, hu, ht]; rfl) HN.out]; rfl, rfl⟩
        · rw [ht] at c0
          go_wp2_with (go_at_call 135; refine (isFunction_any _ _ b0 b1).mono ?_; rw [hu]; rintro e w' ⟨rfl, rfl⟩)
          go_round
          case rel => exact ⟨k + 1, by omega, by go_num, fun j hj => by
            by_cases e : j = k
            · subst e; rw [HP.out, hu, ht]; rfl
            · exact HN.out j (by omega)⟩
          case measure => simp [intOf]; omega
    · go_wp2
      go_ret
      exact ⟨by rw [Wd.allDone, HL.out, Wd.first_no (fun j hj => HN.out j (by omega))]; rfl, rfl⟩

/-- What 'unfold' leaves: the text and yes, or nothing and no; nothing old has turned. -/
def UnfPost (w : World) (r : Option (List UInt8)) (e : Ending) (w' : World) : Prop :=
  Below w.heap.size w w' ∧ (match r with | some t => e = .returned (.tuple #[.string (Wd.mkS t), .bool true]) | none => e = .returned (.tuple #[.string ⟨#[]⟩, .bool false]))

theorem own_some {w : World} {base : Nat} {e : TypeId} {size : Nat} {v : Value} {n : Nat} {xs : List Value} (h : w.ownsRow base e size v n xs) (hv : v ≠ .slice none 0 0) : ∃ g cap, v = .slice (some ⟨g, 0, none⟩) n cap := by
  rcases h.2 with ⟨h1, _⟩ | ⟨g, cap, cur, h1, _⟩
  · exact absurd h1 hv
  · exact ⟨g, cap, h1⟩
theorem own_bytes {w : World} {base : Nat} {g cap : Nat} {l : List UInt8} (h : w.ownsRow base 5 1 (.slice (some ⟨g, 0, none⟩) l.length cap) l.length (Wd.bytesV l)) :
    ∀ j (hj : j < l.length), w.cell? ((⟨g, 0, none⟩ : Addr).add j) = some (.int .u8 ((l[j].toNat : Nat) : Int)) := by
  intro j hj
  have := h.cells (g := g) rfl j (.int .u8 ((l[j].toNat : Nat) : Int)) (by simp [Wd.bytesV, Wd.bt, hj])
  exact this
theorem bytesV_app (a b : List UInt8) : Wd.bytesV (a ++ b) = Wd.bytesV a ++ Wd.bytesV b := by simp [Wd.bytesV]
set_option maxRecDepth 100000 in
set_option maxHeartbeats 1600000 in
theorem unfold_any (s : ByteArray) (F : Nat → Wd.Fn) (v : Value) (b : Nat) (w : World) (hs : s.size ≤ 10000) (hF : ∀ j, (F j).text.length ≤ 300) (hb : w.heap[b]? = some (.cells (Wd.pgA v F) 167 (0, 0))) :
    Calls Try.prog 138 #[.pointer (some ⟨b, 0, none⟩), .string s] w (UnfPost w (Wd.unfold F s.data.toList)) := by
  have HH := hide hb
  have HF := hide hF
  clear hb hF
  obtain ⟨i0, hi, hz0, hz1, hz2⟩ := info_parts Try.info5
  have hr0 : Hid (Wd.unfold F s.data.toList = Wd.unf F (s.data.toList.drop 0) []) := rfl
  generalize hr : Wd.unfold F s.data.toList = r at *
  clear hr
  go_enter Try.func138, Try.ntmps138
  go_wp2
  have s0 : (w.alloc (.cells #[] 5)).ownsRow w.heap.size 5 1 (.slice (some ⟨w.heap.size, 0, none⟩) 0 0) 0 [] := World.ownsRow_made w #[] 0 (Nat.le_refl _) (by unfold maxLen; omega) rfl
  have s1 : Below w.heap.size w (w.alloc (.cells #[] 5)) := (Below.refl _ _).alloc (Nat.le_refl _) _
  generalize w.alloc (.cells #[] 5) = W at *
  go_loopw [6, 7] (fun a b wr => ∃ (k : Nat) (acc : List UInt8) (g cap : Nat), k ≤ s.size ∧ b = .int .i64 k ∧ acc.length ≤ 300 ∧ a = .slice (some ⟨g, 0, none⟩) acc.length cap ∧ wr.ownsRow w.heap.size 5 1 (.slice (some ⟨g, 0, none⟩) acc.length cap) acc.length (Wd.bytesV acc) ∧ r = Wd.unf F (s.data.toList.drop k) acc ∧ Below w.heap.size w wr) (fun _ b _ => s.size - (intOf b).toNat)
  case atStart => exact ⟨0, [], w.heap.size, 0, Nat.zero_le _, rfl, by simp, rfl, s0, hr0.out, s1⟩
  case round =>
    clear s0 s1 hr0
    obtain ⟨k, acc, g, cap, hk, rfl, hal, rfl, hown, hr, hbe⟩ := hrel
    have HO := hide hown
    have HR := hide hr
    have HB := hide hbe
    clear hown hr hbe
    by_cases hlt : k < s.size
    · have HS := hide (Wd.unf_step F s k acc hlt)
      have b0 := Wd.at_lo s.data.toList k
      have b1 := Wd.at_hi s.data.toList k
      rw [← Wd.at_str s k hlt] at b0 b1
      cases hu : Wd.up ((s[k].toNat : Nat) : Int)
      · have HE : Hid (r = if 300 < (acc ++ [s[k]]).length then none else Wd.unf F (s.data.toList.drop (k + 1)) (acc ++ [s[k]])) := by
          apply hide; rw [HR.out, HS.out, hu]; rfl
        by_cases hg : 300 < acc.length + 1
        · have HE2 : Hid (r = none) := by apply hide; rw [HE.out, if_pos (by simp; omega)]
          go_wp2_with (first | (go_at_call 135; refine (isFunction_any _ _ b0 b1).mono ?_; rw [hu]; rintro e w' ⟨rfl, rfl⟩) | (at_builtin; refine wpList_append_own _ rfl _ _ 83 rfl w.heap.size 5 i0 (.int .u8 0) 1 1 Try.underlying83 hi hz0 hz1 hz2 rfl (by decide) _ _ _ rfl (HO.out.alloc _) ⟨_, 0, none⟩ 1 1 [.int .u8 ((s[k].toNat : Nat) : Int)] rfl rfl (cell_one_new _ _ _) (fun x hx => by simp at hx; subst hx; rfl) (by unfold maxLen; omega) (by omega) (by have := HB.out.size; simp; omega) ?_; intro v' w3 hown' hgrow3 hnil3; obtain ⟨g', cap', rfl⟩ := own_some hown' (fun e => by have h9 := (hnil3.1 e).1; cases h9); have HG := hide hgrow3; have HW := hide hown'; clear hgrow3 hown' hnil3))
          go_ret2
          rw [HE2.out]
          exact ⟨((HB.out.alloc HB.out.size _).grown HG.out (by have := HB.out.size; simp; omega) (fun q hq => (HO.out.lt q hq).1)), rfl⟩
        · have HE2 : Hid (r = Wd.unf F (s.data.toList.drop (k + 1)) (acc ++ [s[k]])) := by apply hide; rw [HE.out, if_neg (by simp; omega)]
          go_wp2_with (first | (go_at_call 135; refine (isFunction_any _ _ b0 b1).mono ?_; rw [hu]; rintro e w' ⟨rfl, rfl⟩) | (at_builtin; refine wpList_append_own _ rfl _ _ 83 rfl w.heap.size 5 i0 (.int .u8 0) 1 1 Try.underlying83 hi hz0 hz1 hz2 rfl (by decide) _ _ _ rfl (HO.out.alloc _) ⟨_, 0, none⟩ 1 1 [.int .u8 ((s[k].toNat : Nat) : Int)] rfl rfl (cell_one_new _ _ _) (fun x hx => by simp at hx; subst hx; rfl) (by unfold maxLen; omega) (by omega) (by have := HB.out.size; simp; omega) ?_; intro v' w3 hown' hgrow3 hnil3; obtain ⟨g', cap', rfl⟩ := own_some hown' (fun e => by have h9 := (hnil3.1 e).1; cases h9); have HG := hide hgrow3; have HW := hide hown'; clear hgrow3 hown' hnil3))
          refine ⟨⟨k + 1, acc ++ [s[k]], g', cap', by omega, by go_num, by simp; omega, by simp, ?_, HE2.out, ((HB.out.alloc HB.out.size _).grown HG.out (by have := HB.out.size; simp; omega) (fun q hq => (HO.out.lt q hq).1))⟩, by simp [intOf]; omega⟩
          rw [bytesV_app]
          have := HW.out
          simpa [Wd.bytesV, Wd.bt] using this
      · have hu' := hu
        simp [Wd.up] at hu'
        have HBl := hide (below_row HB.out HH.out)
        have r0 : wr.cell? ⟨b, 1 + (s[k].toNat - 65) * 5, none⟩ = some (.bool (F (s[k].toNat - 65)).there) := row_cell HBl.out (Wd.pgA_at _ F _ 0 (by omega) _ rfl)
        have r1 : wr.cell? ⟨b, 1 + (s[k].toNat - 65) * 5 + 1, none⟩ = some (.string (Wd.mkS (F (s[k].toNat - 65)).body)) := row_cell HBl.out (Wd.pgA_at _ F _ 1 (by omega) _ rfl)
        have r2 : wr.cell? ⟨b, 1 + (s[k].toNat - 65) * 5 + 2, none⟩ = some (.bool (F (s[k].toNat - 65)).done) := row_cell HBl.out (Wd.pgA_at _ F _ 2 (by omega) _ rfl)
        have r3 : wr.cell? ⟨b, 1 + (s[k].toNat - 65) * 5 + 3, none⟩ = some (.bool (F (s[k].toNat - 65)).fits) := row_cell HBl.out (Wd.pgA_at _ F _ 3 (by omega) _ rfl)
        have r4 : wr.cell? ⟨b, 1 + (s[k].toNat - 65) * 5 + 4, none⟩ = some (.string (Wd.mkS (F (s[k].toNat - 65)).text)) := row_cell HBl.out (Wd.pgA_at _ F _ 4 (by omega) _ rfl)
        have htl := HF.out (s[k].toNat - 65)
        have HE : Hid (r = if (F (s[k].toNat - 65)).fits = true then (if 300 < (acc ++ (F (s[k].toNat - 65)).text).length then none else Wd.unf F (s.data.toList.drop (k + 1)) (acc ++ (F (s[k].toNat - 65)).text)) else none) := by
          apply hide; rw [HR.out, HS.out, hu]; rfl
        generalize F (s[k].toNat - 65) = f at *
        obtain ⟨fth, fbd, fdn, fft, ftx⟩ := f
        simp only at r0 r1 r2 r3 r4 htl HE
        have htx : (Wd.mkS ftx).size = ftx.length := Wd.mkS_size ftx
        have hsc : Hid (Lib.strCells (Wd.mkS ftx) = Wd.bytesV ftx) := rfl
        generalize Wd.mkS ftx = tx at *
        generalize Wd.mkS fbd = bd at *
        have hts : tx.size ≤ 300 := by omega
        have HTX := hide htx
        clear htx
        cases fft
        · have HE2 : Hid (r = none) := by apply hide; rw [HE.out]; rfl
          go_wp2_with (go_at_call 135; refine (isFunction_any _ _ b0 b1).mono ?_; rw [hu]; rintro e w' ⟨rfl, rfl⟩)
          go_ret2
          rw [HE2.out]
          exact ⟨HB.out.alloc HB.out.size _, rfl⟩
        · by_cases hg : 300 < acc.length + tx.size
          · have HE2 : Hid (r = none) := by
              have := HTX.out
              apply hide; rw [HE.out, if_pos rfl, if_pos (by simp; omega)]
            go_wp2_with (first | (go_at_call 135; refine (isFunction_any _ _ b0 b1).mono ?_; rw [hu]; rintro e w' ⟨rfl, rfl⟩) | (at_builtin; refine Lib.wpList_append_own_string _ rfl _ _ 83 9 rfl w.heap.size 5 i0 Try.underlying83 Try.underlying9 hi hz0 hz1 hz2 _ _ _ rfl (HO.out.alloc _) tx rfl (by unfold maxLen; omega) (by omega) (by have := HB.out.size; simp; omega) ?_; intro v' w3 hown' hgrow3 hnil3; obtain ⟨g', cap', rfl⟩ := own_some hown' (fun e => by have h9 := (hnil3.1 e).1; cases h9); have HG := hide hgrow3; have HW := hide hown'; clear hgrow3 hown' hnil3))
            go_ret2
            rw [HE2.out]
            exact ⟨(((HB.out.alloc HB.out.size _)).grown HG.out (by have := HB.out.size; simp; omega) (fun q hq => (HO.out.lt q hq).1)), rfl⟩
          · have HE2 : Hid (r = Wd.unf F (s.data.toList.drop (k + 1)) (acc ++ ftx)) := by
              have := HTX.out
              apply hide; rw [HE.out, if_pos rfl, if_neg (by simp; omega)]
            go_wp2_with (first | (go_at_call 135; refine (isFunction_any _ _ b0 b1).mono ?_; rw [hu]; rintro e w' ⟨rfl, rfl⟩) | (at_builtin; refine Lib.wpList_append_own_string _ rfl _ _ 83 9 rfl w.heap.size 5 i0 Try.underlying83 Try.underlying9 hi hz0 hz1 hz2 _ _ _ rfl (HO.out.alloc _) tx rfl (by unfold maxLen; omega) (by omega) (by have := HB.out.size; simp; omega) ?_; intro v' w3 hown' hgrow3 hnil3; obtain ⟨g', cap', rfl⟩ := own_some hown' (fun e => by have h9 := (hnil3.1 e).1; cases h9); have HG := hide hgrow3; have HW := hide hown'; clear hgrow3 hown' hnil3))
            have htx := HTX.out
            refine ⟨⟨k + 1, acc ++ ftx, g', cap', by omega, by go_num, by simp; omega, by simp [htx], ?_, HE2.out, (((HB.out.alloc HB.out.size _)).grown HG.out (by have := HB.out.size; simp; omega) (fun q hq => (HO.out.lt q hq).1))⟩, by simp [intOf]; omega⟩
            rw [bytesV_app, List.length_append, ← htx, ← hsc.out]
            exact HW.out
    · have hcv := run_convert_bytes_back (P := Try.prog) wr 83 9 5 ⟨g, 0, none⟩ cap acc Try.underlying83 Try.underlying5 Try.underlying9 (own_bytes HO.out)
      go_wp2
      go_ret2
      rw [HR.out, Wd.unf_end F s k acc (by omega)]
      exact ⟨HB.out, rfl⟩
end Go.Proofs.Ytecmfdkhcffpmaa
