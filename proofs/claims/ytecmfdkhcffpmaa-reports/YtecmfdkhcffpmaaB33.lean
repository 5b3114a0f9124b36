/- DocC, CodeX. -/
import Derived.Test.YtecmfdkhcffpmaaB32
import Derived.Test.YtecmfdkhcffpmaaB25
import Derived.Test.YtecmfdkhcffpmaaB27
/- Contracts of the document's states: the table is swept. -/
namespace Go.Proofs.Ytecmfdkhcffpmaa
open Go.RowKit
set_option linter.unusedSimpArgs false
set_option linter.unusedVariables false
set_option maxHeartbeats 8000000
open Mc

/-- A table of states, in memory. -/
structure DT (w : World) (go : Nat) (gs : Nat → Nat) (n : Nat) (F : DTb) : Prop where
  out : Blk w go (n + 1) (fun p => .slice (some ⟨gs p, 0, none⟩) 128 128)
  inn : ∀ p, p ≤ n → Blk w (gs p) 128 (fun s => .bool (F p s))
  inj : ∀ p q, p ≤ n → q ≤ n → gs p = gs q → p = q
  ne : ∀ p, p ≤ n → gs p ≠ go
theorem DT.below {w w' : World} {go n : Nat} {gs : Nat → Nat} {F : DTb} (h : DT w go gs n F) (hb : Below w.heap.size w w') : DT w' go gs n F := ⟨h.out.below hb, fun p hp => (h.inn p hp).below hb, h.inj, h.ne⟩
theorem DT.set {w : World} {go n : Nat} {gs : Nat → Nat} {F : DTb} (h : DT w go gs n F) (q t : Nat) (hq : q ≤ n) : DT (w.setCell ⟨gs q, t, none⟩ (.bool true)) go gs n (setF F q t) := by
  refine ⟨h.out.same (heap_setCell_other _ _ _ _ (fun e => h.ne q hq e.symm)), fun p hp => ?_, h.inj, h.ne⟩
  by_cases e : p = q
  · subst e
    refine ((h.inn p hp).set t (.bool true)).congr (fun i hi => ?_)
    unfold setF
    by_cases e2 : i = t <;> simp [e2]
  · refine ((h.inn p hp).same (heap_setCell_other _ _ _ _ (fun e2 => e (h.inj p q hp hq e2)))).congr (fun i hi => ?_)
    unfold setF
    simp [e]
/-- Nothing has turned but the table. -/
def KpT (w w' : World) (gs : Nat → Nat) (n : Nat) : Prop := ∀ B, (∀ p, p ≤ n → B ≤ gs p) → B ≤ w.heap.size → Below B w w'
theorem KpT.refl (w : World) (gs : Nat → Nat) (n : Nat) : KpT w w gs n := fun B _ _ => Below.refl _ _
theorem KpT.below {w w' w'' : World} {gs : Nat → Nat} {n : Nat} (h : KpT w w' gs n) (hb : Below w'.heap.size w' w'') : KpT w w'' gs n := fun B h1 h2 => (h B h1 h2).trans (hb.mono (by have := (h B h1 h2).size; omega))
theorem KpT.set {w w' : World} {gs : Nat → Nat} {n q : Nat} (h : KpT w w' gs n) (hq : q ≤ n) (t : Nat) (v : Value) : KpT w (w'.setCell ⟨gs q, t, none⟩ v) gs n := fun B h1 h2 => (h B h1 h2).setCell (h1 q hq) v
theorem KpT.alloc {w w' : World} {gs : Nat → Nat} {n : Nat} (h : KpT w w' gs n) (o : Obj) : KpT w (w'.alloc o) gs n := h.below (below_one _ _)
theorem KpT.trans {w w' w'' : World} {gs : Nat → Nat} {n : Nat} (h : KpT w w' gs n) (h' : KpT w' w'' gs n) : KpT w w'' gs n := fun B h1 h2 => (h B h1 h2).trans (h' B h1 (by have := (h B h1 h2).size; omega))
structure SwM (w W : World) (hd : Bool) (b : List UInt8) (go : Nat) (gs : Nat → Nat) (F0 F : DTb) (any : Bool) (p s k : Nat) : Prop where
  dt : DT W go gs b.length F
  it : Row W w.heap.size #[.bool hd, .string (Wd.mkS b)] 31
  kp : KpT w W gs b.length
  sw : SwI hd b F0 F any p s k
  hi : ∀ p, p ≤ b.length → gs p < w.heap.size
theorem SwM.below {w W W' : World} {hd : Bool} {b : List UInt8} {go : Nat} {gs : Nat → Nat} {F0 F : DTb} {any : Bool} {p s k : Nat} (h : SwM w W hd b go gs F0 F any p s k) (hb : Below W.heap.size W W') : SwM w W' hd b go gs F0 F any p s k := ⟨h.dt.below hb, h.it.below hb, h.kp.below hb, h.sw, h.hi⟩
theorem SwM.to {w W : World} {hd : Bool} {b : List UInt8} {go : Nat} {gs : Nat → Nat} {F0 F : DTb} {any : Bool} {p s k p' s' k' : Nat} (h : SwM w W hd b go gs F0 F any p s k) (h' : SwI hd b F0 F any p' s' k') : SwM w W hd b go gs F0 F any p' s' k' := ⟨h.dt, h.it, h.kp, h', h.hi⟩
theorem SwM.set {w W : World} {hd : Bool} {b : List UInt8} {go : Nat} {gs : Nat → Nat} {F0 F : DTb} {any : Bool} {p s k p' s' k' q t : Nat} (h : SwM w W hd b go gs F0 F any p s k) (hq : q ≤ b.length) (h' : SwI hd b F0 (setF F q t) true p' s' k') : SwM w (W.setCell ⟨gs q, t, none⟩ (.bool true)) hd b go gs F0 (setF F q t) true p' s' k' := ⟨h.dt.set q t hq, h.it.setO (by have := h.hi q hq; omega) _ _, h.kp.set hq _ _, h', h.hi⟩
set_option maxRecDepth 100000 in
theorem sweep_any (hd : Bool) (b : List UInt8) (w : World) (go cap : Nat) (gs : Nat → Nat) (F0 : DTb) (hg : GB b) (hdt : DT w go gs b.length F0) (hsub : ∀ a c, F0 a c = true → InD hd b a c) :
    Calls Try.prog 123 #[.agg #[.bool hd, .string (Wd.mkS b)], .slice (some ⟨go, 0, none⟩) (b.length + 1) cap] w fun e w' => ∃ F any, e = .returned (.bool any) ∧ DT w' go gs b.length F ∧ SwI hd b F0 F any b.length 0 0 ∧ KpT w w' gs b.length := by
  have HG := hide hg
  have hlen : b.length ≤ 300 := hg.short
  have HM0 : Hid (SwM w (w.alloc (.cells #[.bool hd, .string (Wd.mkS b)] 31)) hd b go gs F0 F0 false 0 0 0) := hide ⟨hdt.below (below_one _ _), Row.new _ _ _, (KpT.refl w gs _).alloc _, SwI.beg hsub, fun p hp => (hdt.inn p hp).lt⟩
  have AWR := hide (fun p s W (hp : p ≤ 300) (hs : s < 128) => wrong_any hd b p s W hlen (by omega) hs hg.pair)
  have AFO := hide (fun p s k W (hs : s < 128) (hpl : Pl b p) (hp : p < b.length) (hw : wrD hd b p s = 0) => follows_any hd b p s k W hg hs hpl hp hw)
  have hbs : (Wd.mkS b).size = b.length := Wd.mkS_size b
  clear hg hdt hsub
  go_enter Try.func123, Try.ntmps123
  go_wp2
  generalize w.alloc (.cells #[.bool hd, .string (Wd.mkS b)] 31) = W0 at *
  go_loopw [5, 6] (fun a c wr => ∃ (p : Nat) (F : DTb) (any : Bool), p ≤ b.length ∧ a = .bool any ∧ c = .int .i64 p ∧ SwM w wr hd b go gs F0 F any p 0 0) (fun _ c _ => b.length - (intOf c).toNat)
  case atStart => exact ⟨0, F0, false, by omega, rfl, rfl, HM0.out⟩
  case round =>
    clear HM0
    obtain ⟨p, F, any, hp, rfl, rfl, hm⟩ := hrel
    have HM := hide hm
    clear hm
    have y1 : wr.cell? ⟨w.heap.size, 1, none⟩ = some (.string (Wd.mkS b)) := HM.out.it.cell 1 rfl
    have hpI : (p : Int) ≤ 300 := by omega
    by_cases hpt : p < b.length
    · go_wp2
      go_loopw [5, 7] (fun a c wr => ∃ (s : Nat) (F : DTb) (any : Bool), s ≤ 128 ∧ a = .bool any ∧ c = .int .i64 s ∧ SwM w wr hd b go gs F0 F any p s 0) (fun _ c _ => 128 - (intOf c).toNat)
      case atStart => exact ⟨0, F, any, by omega, rfl, rfl, HM.out⟩
      case round =>
        clear HM y1
        obtain ⟨s, F, any, hs, rfl, rfl, hm⟩ := hrel
        have HM := hide hm
        clear hm
        have hsI : (s : Int) ≤ 128 := by omega
        by_cases hst : s < 128
        · have z0 : wr.cell? ⟨go, p, none⟩ = some (.slice (some ⟨gs p, 0, none⟩) 128 128) := HM.out.dt.out.cell p (by omega)
          have z1 : wr.cell? ⟨gs p, s, none⟩ = some (.bool (F p s)) := (HM.out.dt.inn p (by omega)).cell s hst
          have hp0 : (0 : Int) ≤ (p : Int) := by omega
          have hs0 : (0 : Int) ≤ (s : Int) := by omega
          have x0 : wr.cell? ⟨w.heap.size, 0, none⟩ = some (.bool hd) := HM.out.it.cell 0 rfl
          have x1 : wr.cell? ⟨w.heap.size, 1, none⟩ = some (.string (Wd.mkS b)) := HM.out.it.cell 1 rfl
          obtain ⟨o, ho⟩ : ∃ o, F p s = o := ⟨_, rfl⟩
          rw [ho] at z1
          have HO := hide ho
          clear ho
          cases o
          · go_wp2
            go_round
            case measure => simp [intOf]; omega
            case rel => exact ⟨s + 1, F, any, by omega, rfl, by go_num, HM.out.to (HM.out.sw.pass (Or.inl HO.out))⟩
          · obtain ⟨v, hv⟩ : ∃ v, wrD hd b p s = v := ⟨_, rfl⟩
            have AW := hide (fun W => AWR.out p s W (by omega) hst)
            rw [hv] at AW
            have HV := hide hv
            clear hv
            have HPL := hide ((HM.out.sw.inS HO.out).pl HG.out)
            by_cases hv0 : v = 0
            · subst hv0
              go_wp2_with (first | (go_at_call 91; refine (AW.out _).mono ?_; rintro e w1 ⟨rfl, hb1⟩; have HM1 := hide (HM.out.below hb1); clear hb1))
              go_loopw [5, 9] (fun a c wr => ∃ (k : Nat) (F : DTb) (any : Bool), k ≤ 2 ∧ a = .bool any ∧ c = .int .i64 k ∧ SwM w wr hd b go gs F0 F any p s k ∧ F p s = true) (fun _ c _ => 2 - (intOf c).toNat)
              case atStart => exact ⟨0, F, any, by omega, rfl, rfl, HM1.out, HO.out⟩
              case round =>
                clear HM1 HM z0 z1 x0 x1 HO
                obtain ⟨k, F, any, hk, rfl, rfl, hm, ho⟩ := hrel
                have HM := hide hm
                have HO := hide ho
                clear hm ho
                have x0 : wr.cell? ⟨w.heap.size, 0, none⟩ = some (.bool hd) := HM.out.it.cell 0 rfl
                have x1 : wr.cell? ⟨w.heap.size, 1, none⟩ = some (.string (Wd.mkS b)) := HM.out.it.cell 1 rfl
                by_cases hkt : k < 2
                · obtain ⟨kb, hkb⟩ : ∃ kb : Bool, cond kb 1 0 = k := by
                    by_cases e : k = 0
                    · exact ⟨false, e.symm⟩
                    · exact ⟨true, by show 1 = k; omega⟩
                  have hin := (HM.out.sw.inS HO.out).fol HG.out HV.out kb
                  have hq := hin.le HG.out
                  have ht := hin.1
                  have AF := hide (fun W => AFO.out p s kb W hst HPL.out hpt HV.out)
                  have HOLD := hide (fun h => (hkb ▸ HM.out.sw : SwI hd b F0 F any p s (cond kb 1 0)).old (j := kb) h)
                  have HNEW := hide (fun h => (hkb ▸ HM.out.sw : SwI hd b F0 F any p s (cond kb 1 0)).new (j := kb) HG.out HO.out HV.out h)
                  have HQ : Hid (∀ W, DT W go gs b.length F → W.cell? ⟨go, (folD b p s kb).1, none⟩ = some (.slice (some ⟨gs (folD b p s kb).1, 0, none⟩) 128 128) ∧ W.cell? ⟨gs (folD b p s kb).1, (folD b p s kb).2, none⟩ = some (.bool (F (folD b p s kb).1 (folD b p s kb).2)) ∧ W.frozen? ⟨gs (folD b p s kb).1, (folD b p s kb).2, none⟩ = false) := hide (fun W h => ⟨h.out.cell _ (by omega), (h.inn _ hq).cell _ ht, (h.inn _ hq).frozen _⟩)
                  clear hin
                  generalize (folD b p s kb).1 = q at *
                  generalize (folD b p s kb).2 = t at *
                  have hqI : (q : Int) ≤ 300 := by omega
                  have hq0 : (0 : Int) ≤ (q : Int) := by omega
                  have ht0 : (0 : Int) ≤ (t : Int) := by omega
                  have htI : (t : Int) < 128 := by omega
                  obtain ⟨o, ho⟩ : ∃ o, F q t = o := ⟨_, rfl⟩
                  rw [ho] at HQ HOLD HNEW
                  clear ho
                  subst hkb
                  cases kb <;> cases o <;> (
                    go_wp2_with (first | (go_at_call 150; refine (AF.out _).mono ?_; rintro e w2 ⟨rfl, hb2⟩; have HM2 := hide (HM.out.below hb2); obtain ⟨q1, q2, q3⟩ := HQ.out _ HM2.out.dt; clear hb2))
                    go_round
                    case measure => simp [intOf]
                    case rel =>
                      first
                      | exact ⟨_, F, any, by simp, rfl, by go_num, HM2.out.to (HOLD.out (by first | rfl | trivial)), HO.out⟩
                      | exact ⟨_, setF F q t, true, by simp, rfl, by go_num, HM2.out.set hq (HNEW.out (by first | rfl | trivial)), by unfold setF; split; rfl; exact HO.out⟩)
                · have e : k = 2 := by omega
                  subst e
                  go_wp2
                  go_round
                  case measure => simp [intOf]; omega
                  case rel => exact ⟨s + 1, F, any, by omega, rfl, by go_num, HM.out.to HM.out.sw.next⟩
            · have HVN := hide hv0
              go_wp2_with (first | (go_at_call 91; refine (AW.out _).mono ?_; rintro e w1 ⟨rfl, hb1⟩; have HM1 := hide (HM.out.below hb1); clear hb1))
              go_round
              case measure => simp [intOf]; omega
              case rel => exact ⟨s + 1, F, any, by omega, rfl, by go_num, HM1.out.to (HM1.out.sw.pass (Or.inr (by rw [HV.out]; exact HVN.out)))⟩
        · have e : s = 128 := by omega
          subst e
          go_wp2
          go_round
          case measure => simp [intOf]; omega
          case rel => exact ⟨p + 1, F, any, by omega, rfl, by go_num, HM.out.to HM.out.sw.row⟩
    · have e : p = b.length := by omega
      subst e
      go_wp2
      go_ret
      exact ⟨F, any, rfl, HM.out.dt, HM.out.sw, HM.out.kp⟩
end Go.Proofs.Ytecmfdkhcffpmaa
/- The beginning of an item, spelt out. -/
namespace Go.Proofs.Ytecmfdkhcffpmaa
open Go.RowKit
set_option linter.unusedSimpArgs false
set_option linter.unusedVariables false
set_option maxHeartbeats 8000000
open Mc
theorem cellO {g b : Nat} (hne : g ≠ b) {w : World} {o i : Nat} {v : Value} : (w.setCell ⟨b, o, none⟩ v).cell? ⟨g, i, none⟩ = w.cell? ⟨g, i, none⟩ := by
  have := heap_setCell_other w ⟨b, o, none⟩ g v hne
  simp only [World.cell?, this]
theorem codeBeginX (hd : Bool) (s : ByteArray) (la : Option Addr) (ln lc : Nat) (w : World) :
    Calls Try.prog 127 #[.agg #[.bool hd, .string s, .slice la ln lc]] w fun e w' => e = .returned (.agg #[.int .i64 0, .bool false, .bool false, .bool false, .bool false, .bool false, .bool false, .bool hd]) ∧ Below w.heap.size w w' := codeBegin_any hd s la ln lc w
end Go.Proofs.Ytecmfdkhcffpmaa
