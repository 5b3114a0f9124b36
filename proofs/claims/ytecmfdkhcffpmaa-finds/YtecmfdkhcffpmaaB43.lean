/- DocF. -/
import Derived.Test.YtecmfdkhcffpmaaB41
import Derived.Test.YtecmfdkhcffpmaaB42
/- Contracts of the document's reports: of items alone. -/
namespace Go.Proofs.Ytecmfdkhcffpmaa
open Go.RowKit
set_option linter.unusedSimpArgs false
set_option linter.unusedVariables false
set_option maxHeartbeats 8000000
open Mc

/-- The kind of a letter, by the document's list. -/
def kindD (t : Int) : Int := if t = 68 then 1 else if t = 85 then 2 else if t = 83 then 3 else if t = 69 then 4 else if t = 73 then 5 else if t = 87 then 6 else if t = 82 then 7 else 0
theorem kindD_kindP {t : Int} (h1 : t ≠ 87) (h2 : t ≠ 82) : kindD t = kindP t := by unfold kindD kindP; simp [h1, h2]
set_option maxRecDepth 100000 in
theorem kind_any (t : Int) (w : World) (ht0 : 0 ≤ t) (ht : t ≤ 255) : Calls Try.prog 92 #[.int .u8 t] w fun e w' => e = .returned (.int .i64 (kindD t)) ∧ w' = w := by
  have HK : Hid (kindD t = if t = 68 then 1 else if t = 85 then 2 else if t = 83 then 3 else if t = 69 then 4 else if t = 73 then 5 else if t = 87 then 6 else if t = 82 then 7 else 0) := hide rfl
  generalize kindD t = r at *
  go_enter Try.func92, Try.ntmps92
  go_wp2
  go_loop [4] (fun c => ∃ i : Nat, i ≤ 7 ∧ c = .int .i64 i ∧ (0 < i → t ≠ 68) ∧ (1 < i → t ≠ 85) ∧ (2 < i → t ≠ 83) ∧ (3 < i → t ≠ 69) ∧ (4 < i → t ≠ 73) ∧ (5 < i → t ≠ 87) ∧ (6 < i → t ≠ 82)) (fun c => 7 - (intOf c).toNat)
  case atStart => exact ⟨0, by omega, rfl, fun h => (by omega), fun h => (by omega), fun h => (by omega), fun h => (by omega), fun h => (by omega), fun h => (by omega), fun h => (by omega)⟩
  case round =>
    obtain ⟨i, hi, rfl, h0, h1, h2, h3, h4, h5, h6⟩ := hrel
    have hc : i = 0 ∨ i = 1 ∨ i = 2 ∨ i = 3 ∨ i = 4 ∨ i = 5 ∨ i = 6 ∨ i = 7 := by omega
    have HN := hide (And.intro h0 (And.intro h1 (And.intro h2 (And.intro h3 (And.intro h4 (And.intro h5 h6))))))
    clear h0 h1 h2 h3 h4 h5 h6
    rcases hc with rfl | rfl | rfl | rfl | rfl | rfl | rfl | rfl
    · have hk : (((({ data := #[68, 85, 83, 69, 73, 87, 82] } : ByteArray)[0]'(by decide)).toNat : Nat) : Int) = 68 := rfl
      by_cases e : t = 68
      · subst e
        obtain ⟨h0, h1, h2, h3, h4, h5, h6⟩ := HN.out
        have HR : Hid (r = 1) := hide (by rw [HK.out]; rfl)
        clear HK HN h0 h1 h2 h3 h4 h5 h6
        go_wp2
        go_ret
        exact ⟨ret_int HR.out.symm, rfl⟩
      · have HE := hide e
        have e' : ((68 : Int) == t) = false := by simp; omega
        clear e
        go_wp2
        go_round
        case measure => simp [intOf]
        case rel => obtain ⟨h0, h1, h2, h3, h4, h5, h6⟩ := HN.out; exact ⟨1, by omega, by go_num, fun _ => HE.out, fun h => (by omega), fun h => (by omega), fun h => (by omega), fun h => (by omega), fun h => (by omega), fun h => (by omega)⟩
    · have hk : (((({ data := #[68, 85, 83, 69, 73, 87, 82] } : ByteArray)[1]'(by decide)).toNat : Nat) : Int) = 85 := rfl
      by_cases e : t = 85
      · subst e
        obtain ⟨h0, h1, h2, h3, h4, h5, h6⟩ := HN.out
        have HR : Hid (r = 2) := hide (by rw [HK.out]; rfl)
        clear HK HN h0 h1 h2 h3 h4 h5 h6
        go_wp2
        go_ret
        exact ⟨ret_int HR.out.symm, rfl⟩
      · have HE := hide e
        have e' : ((85 : Int) == t) = false := by simp; omega
        clear e
        go_wp2
        go_round
        case measure => simp [intOf]
        case rel => obtain ⟨h0, h1, h2, h3, h4, h5, h6⟩ := HN.out; exact ⟨2, by omega, by go_num, fun _ => h0 (by omega), fun _ => HE.out, fun h => (by omega), fun h => (by omega), fun h => (by omega), fun h => (by omega), fun h => (by omega)⟩
    · have hk : (((({ data := #[68, 85, 83, 69, 73, 87, 82] } : ByteArray)[2]'(by decide)).toNat : Nat) : Int) = 83 := rfl
      by_cases e : t = 83
      · subst e
        obtain ⟨h0, h1, h2, h3, h4, h5, h6⟩ := HN.out
        have HR : Hid (r = 3) := hide (by rw [HK.out]; rfl)
        clear HK HN h0 h1 h2 h3 h4 h5 h6
        go_wp2
        go_ret
        exact ⟨ret_int HR.out.symm, rfl⟩
      · have HE := hide e
        have e' : ((83 : Int) == t) = false := by simp; omega
        clear e
        go_wp2
        go_round
        case measure => simp [intOf]
        case rel => obtain ⟨h0, h1, h2, h3, h4, h5, h6⟩ := HN.out; exact ⟨3, by omega, by go_num, fun _ => h0 (by omega), fun _ => h1 (by omega), fun _ => HE.out, fun h => (by omega), fun h => (by omega), fun h => (by omega), fun h => (by omega)⟩
    · have hk : (((({ data := #[68, 85, 83, 69, 73, 87, 82] } : ByteArray)[3]'(by decide)).toNat : Nat) : Int) = 69 := rfl
      by_cases e : t = 69
      · subst e
        obtain ⟨h0, h1, h2, h3, h4, h5, h6⟩ := HN.out
        have HR : Hid (r = 4) := hide (by rw [HK.out]; rfl)
        clear HK HN h0 h1 h2 h3 h4 h5 h6
        go_wp2
        go_ret
        exact ⟨ret_int HR.out.symm, rfl⟩
      · have HE := hide e
        have e' : ((69 : Int) == t) = false := by simp; omega
        clear e
        go_wp2
        go_round
        case measure => simp [intOf]
        case rel => obtain ⟨h0, h1, h2, h3, h4, h5, h6⟩ := HN.out; exact ⟨4, by omega, by go_num, fun _ => h0 (by omega), fun _ => h1 (by omega), fun _ => h2 (by omega), fun _ => HE.out, fun h => (by omega), fun h => (by omega), fun h => (by omega)⟩
    · have hk : (((({ data := #[68, 85, 83, 69, 73, 87, 82] } : ByteArray)[4]'(by decide)).toNat : Nat) : Int) = 73 := rfl
      by_cases e : t = 73
      · subst e
        obtain ⟨h0, h1, h2, h3, h4, h5, h6⟩ := HN.out
        have HR : Hid (r = 5) := hide (by rw [HK.out]; rfl)
        clear HK HN h0 h1 h2 h3 h4 h5 h6
        go_wp2
        go_ret
        exact ⟨ret_int HR.out.symm, rfl⟩
      · have HE := hide e
        have e' : ((73 : Int) == t) = false := by simp; omega
        clear e
        go_wp2
        go_round
        case measure => simp [intOf]
        case rel => obtain ⟨h0, h1, h2, h3, h4, h5, h6⟩ := HN.out; exact ⟨5, by omega, by go_num, fun _ => h0 (by omega), fun _ => h1 (by omega), fun _ => h2 (by omega), fun _ => h3 (by omega), fun _ => HE.out, fun h => (by omega), fun h => (by omega)⟩
    · have hk : (((({ data := #[68, 85, 83, 69, 73, 87, 82] } : ByteArray)[5]'(by decide)).toNat : Nat) : Int) = 87 := rfl
      by_cases e : t = 87
      · subst e
        obtain ⟨h0, h1, h2, h3, h4, h5, h6⟩ := HN.out
        have HR : Hid (r = 6) := hide (by rw [HK.out]; rfl)
        clear HK HN h0 h1 h2 h3 h4 h5 h6
        go_wp2
        go_ret
        exact ⟨ret_int HR.out.symm, rfl⟩
      · have HE := hide e
        have e' : ((87 : Int) == t) = false := by simp; omega
        clear e
        go_wp2
        go_round
        case measure => simp [intOf]
        case rel => obtain ⟨h0, h1, h2, h3, h4, h5, h6⟩ := HN.out; exact ⟨6, by omega, by go_num, fun _ => h0 (by omega), fun _ => h1 (by omega), fun _ => h2 (by omega), fun _ => h3 (by omega), fun _ => h4 (by omega), fun _ => HE.out, fun h => (by omega)⟩
    · have hk : (((({ data := #[68, 85, 83, 69, 73, 87, 82] } : ByteArray)[6]'(by decide)).toNat : Nat) : Int) = 82 := rfl
      by_cases e : t = 82
      · subst e
        obtain ⟨h0, h1, h2, h3, h4, h5, h6⟩ := HN.out
        have HR : Hid (r = 7) := hide (by rw [HK.out]; rfl)
        clear HK HN h0 h1 h2 h3 h4 h5 h6
        go_wp2
        go_ret
        exact ⟨ret_int HR.out.symm, rfl⟩
      · have HE := hide e
        have e' : ((82 : Int) == t) = false := by simp; omega
        clear e
        go_wp2
        go_round
        case measure => simp [intOf]
        case rel => obtain ⟨h0, h1, h2, h3, h4, h5, h6⟩ := HN.out; exact ⟨7, by omega, by go_num, fun _ => h0 (by omega), fun _ => h1 (by omega), fun _ => h2 (by omega), fun _ => h3 (by omega), fun _ => h4 (by omega), fun _ => h5 (by omega), fun _ => HE.out⟩
    · obtain ⟨h0, h1, h2, h3, h4, h5, h6⟩ := HN.out
      have HR : Hid (r = 0) := hide (by rw [HK.out, if_neg (h0 (by omega)), if_neg (h1 (by omega)), if_neg (h2 (by omega)), if_neg (h3 (by omega)), if_neg (h4 (by omega)), if_neg (h5 (by omega)), if_neg (h6 (by omega))])
      clear HK HN h0 h1 h2 h3 h4 h5 h6
      go_wp2
      go_ret
      exact ⟨ret_int HR.out.symm, rfl⟩
theorem RepI.nil (w : World) : RepI w w (.slice none 0 0) [] := ⟨World.ownsRow_nil _ _ _ _, Below.refl _ _⟩
/-- The cells of what is known. -/
theorem DkAll.cells {w : World} {its : List Wd.It} {iv dv : Value} {D : List Dk} (h : DkAll w its iv dv D) {i : Nat} (hi : i < its.length) : ∃ (gi ci gd cd : Nat) (d : Dk), iv = .slice (some ⟨gi, 0, none⟩) its.length ci ∧ dv = .slice (some ⟨gd, 0, none⟩) its.length cd ∧ d.n1 = (bodyOf its i).length + 1 ∧ ∀ W, Below w.heap.size w W → W.cell? ⟨gi, i * 2, none⟩ = some (.bool (isH its i)) ∧ W.cell? ⟨gi, i * 2 + 1, none⟩ = some (.string (Wd.mkS (bodyOf its i))) ∧ W.cell? ⟨gd, i, none⟩ = some (.slice (some ⟨d.go, 0, none⟩) d.n1 d.cap) ∧ (∀ p, p ≤ (bodyOf its i).length → W.cell? ⟨d.go, p, none⟩ = some (.slice (some ⟨d.gs p, 0, none⟩) 128 128) ∧ ∀ s, s < 128 → W.cell? ⟨d.gs p, s, none⟩ = some (.bool (inDb (isH its i) (bodyOf its i) p s))) := by
  have hiD : i < D.length := by rw [h.len]; exact hi
  obtain ⟨gi, ci, hv1, hg1, c0, c1⟩ := items_cells h.items hi
  obtain ⟨gd, cd, hv2, _, hg2, _, _, hr2⟩ := own_el dkV_len h.own (List.getElem?_eq_getElem hiD)
  have hdk := h.each i _ (List.getElem?_eq_getElem hiD)
  have x2 : w.cell? ⟨gd, i, none⟩ = some (.slice (some ⟨D[i].go, 0, none⟩) D[i].n1 D[i].cap) := by have := hr2 0 _ rfl; simpa using this
  rw [h.len] at hv2
  refine ⟨gi, ci, gd, cd, D[i], hv1, hv2, hdk.n1, fun W hb => ⟨?_, ?_, ?_, fun p hp => ⟨?_, fun s hs => ?_⟩⟩⟩
  · rw [hb.cell (by exact hg1)]; exact c0
  · rw [hb.cell (by exact hg1)]; exact c1
  · rw [hb.cell (by exact hg2)]; exact x2
  · rw [hb.cell (by exact hdk.dt.out.lt)]; exact hdk.dt.out.cell p (by omega)
  · rw [hb.cell (by exact (hdk.dt.inn p hp).lt)]; exact (hdk.dt.inn p hp).cell s hs
/-- Is there a state of that kind at the place, among the first n? -/
noncomputable def fndTo (hd : Bool) (b : List UInt8) (k p n : Nat) : Bool := (List.range n).any (fun s => inDb hd b p s && decide (kindD (wrD hd b p s) = (k : Int)))
theorem fndTo_succ (hd : Bool) (b : List UInt8) (k p n : Nat) : fndTo hd b k p (n + 1) = (fndTo hd b k p n || (inDb hd b p n && decide (kindD (wrD hd b p n) = (k : Int)))) := by simp [fndTo, List.range_succ]
theorem fndTo_iff (hd : Bool) (b : List UInt8) (hg : GB b) (k p : Nat) : fndTo hd b k p 128 = true ↔ BadAt hd b k p := by
  have hkk : ∀ s, kindD (wrD hd b p s) = kd hd b (stOf p s) := fun s => by
    unfold wrD kd
    have hv := faultP_vals hd b p (s / 2) (decide (s % 2 = 1))
    rw [kindD_kindP (by omega) (by omega)]
    rfl
  unfold fndTo
  rw [List.any_eq_true]
  constructor
  · rintro ⟨s, hs, e⟩
    rw [Bool.and_eq_true, decide_eq_true_eq, inDb_iff, hkk] at e
    exact ⟨s / 2, decide (s % 2 = 1), e.1.2, e.2⟩
  · rintro ⟨h, off, hr, e⟩
    have hok := hr.ok hg
    refine ⟨dn h off, List.mem_range.2 (dn_lt _ hok.1), ?_⟩
    rw [Bool.and_eq_true, decide_eq_true_eq, inDb_iff, hkk, stOf_dn]
    exact ⟨⟨dn_lt _ hok.1, by rw [stOf_dn]; exact hr⟩, e⟩
noncomputable def fndP (its : List Wd.It) (k i p : Nat) : Bool := fndTo (isH its i) (bodyOf its i) k p 128
def lenD (its : List Wd.It) (i : Nat) : Nat := (bodyOf its i).length + 1
set_option maxRecDepth 100000 in
theorem solo_any (w : World) (its : List Wd.It) (ia da : Option Addr) (ic dc : Nat) (D : List Dk) (k : Nat) (hk : k ≤ 5) (hD : DkAll w its (.slice ia its.length ic) (.slice da its.length dc) D) :
    Calls Try.prog 60 #[.slice ia its.length ic, .slice da its.length dc, .int .i64 k] w fun e w' => ∃ ao cc, e = .returned (.slice ao (soloK (fndP its) (lenD its) k its.length).length cc) ∧ RepI w w' (.slice ao (soloK (fndP its) (lenD its) k its.length).length cc) (soloK (fndP its) (lenD its) k its.length) := by
  have HD := hide hD
  have HF := hide hD.fine
  have hl8 := hD.fine.len
  clear hD
  have HR0 := hide (RepI.nil w)
  have AW := hide (fun i p s W (hi : i < its.length) (hp : p ≤ 300) (hs : s < 128) => wrong_any (isH its i) (bodyOf its i) p s W (HF.out.short i hi) (by omega) hs (HF.out.gb hi).pair)
  have HLN : Hid (∀ i, i < its.length → lenD its i ≤ 301) := hide (fun i hi => by have := HF.out.short i hi; unfold lenD; omega)
  obtain ⟨i0, hj0, hz0, hz1, hz2⟩ := info_parts Try.infoRep
  go_enter Try.func60, Try.ntmps60
  go_wp2
  go_loopw [7, 8] (fun a c wr => ∃ i : Nat, i ≤ its.length ∧ c = .int .i64 i ∧ RepI w wr a (soloK (fndP its) (lenD its) k i)) (fun _ c _ => its.length - (intOf c).toNat)
  case atStart => exact ⟨0, by omega, rfl, HR0.out⟩
  case round =>
    clear HR0
    obtain ⟨i, hi, rfl, hr⟩ := hrel
    have HR := hide hr
    clear hr
    obtain ⟨ao, cc, hv⟩ := own_v HR.out.own
    subst hv
    by_cases hit : i < its.length
    · obtain ⟨gi, ci, gd, cd, d, hv1, hv2, hn1, hcel⟩ := HD.out.cells hit
      cases hv1
      cases hv2
      have HC := hide hcel
      have HN1 := hide hn1
      have hbl := HF.out.short i hit
      have hi0 : (0 : Int) ≤ (i : Int) := by omega
      have hbs : (Wd.mkS (bodyOf its i)).size = (bodyOf its i).length := Wd.mkS_size _
      have hlk := soloK_len (fndP its) (lenD its) k i (fun i' hi' => HLN.out i' (by omega))
      have AWi := hide (fun p s W hp hs => AW.out i p s W hit hp hs)
      have HLD : Hid (lenD its i = (bodyOf its i).length + 1) := hide rfl
      have HFD : Hid (∀ p, fndP its k i p = fndTo (isH its i) (bodyOf its i) k p 128) := hide (fun p => rfl)
      have hlk2 : (soloK (fndP its) (lenD its) k i).length ≤ 3000 := by have : i * 301 ≤ 8 * 301 := Nat.mul_le_mul_right _ (by omega); omega
      clear hcel hn1 hlk
      generalize isH its i = hd at *
      generalize bodyOf its i = b at *
      go_wp2
      go_loopw [7, 9] (fun a c wr => ∃ (p : Nat) (X : List Rp), p ≤ b.length + 1 ∧ c = .int .i64 p ∧ X = soloK (fndP its) (lenD its) k i ++ soloRow (fndP its k i) k i p ∧ RepI w wr a X) (fun _ c _ => b.length + 1 - (intOf c).toNat)
      case atStart => exact ⟨0, _, by omega, rfl, rfl, by rw [soloRow_zero, List.append_nil]; exact HR.out⟩
      case round =>
        clear HR
        obtain ⟨p, X, hp, rfl, hX, hr⟩ := hrel
        have HR := hide hr
        have HX := hide hX
        clear hr hX
        obtain ⟨ao, cc, hv⟩ := own_v HR.out.own
        subst hv
        obtain ⟨x0, x1, x2, x3⟩ := HC.out _ HR.out.b
        have HX3 := hide x3
        clear x3
        by_cases hpt : p ≤ b.length
        · have hp0 : (0 : Int) ≤ (p : Int) := by omega
          have hsz := HR.out.b.size
          have hXl : X.length ≤ 10000 := by have h3 := soloRow_len (fndP its k i) k i p; rw [HX.out, List.length_append]; omega
          go_wp2
          have HB0 := hide HR.out.b
          generalize hw0 : wr = w0 at *
          clear hw0
          go_loopw [10, 11] (fun a c wr2 => ∃ s : Nat, s ≤ 128 ∧ c = .int .i64 s ∧ a = .bool (fndTo hd b k p s) ∧ Below w0.heap.size w0 wr2) (fun _ c _ => 128 - (intOf c).toNat)
          case atStart => exact ⟨0, by omega, rfl, rfl, Below.refl _ _⟩
          case round =>
            clear x0 x1 x2
            obtain ⟨s, hs, rfl, rfl, hbl2⟩ := hrel
            have HB2 := hide hbl2
            clear hbl2
            by_cases hst : s < 128
            · obtain ⟨x0, x1, x2, x3'⟩ := HC.out _ (below_go HB0.out HB2.out)
              obtain ⟨x3, x4'⟩ := x3' p hpt
              have x4 := x4' s hst
              clear x3' x4'
              have hs0 : (0 : Int) ≤ (s : Int) := by omega
              have hpn : (p : Int) < (d.n1 : Int) := by have := HN1.out; omega
              have HSU := hide (fndTo_succ hd b k p s)
              obtain ⟨v, hv⟩ : ∃ v, wrD hd b p s = v := ⟨_, rfl⟩
              have AWs := hide (fun W => AWi.out p s W (by omega) hst)
              rw [hv] at AWs HSU
              have hvb : 0 ≤ v ∧ v ≤ 255 := by have := faultP_vals hd b p (s / 2) (decide (s % 2 = 1)); unfold wrD at hv; omega
              have AKv := hide (fun W => kind_any v W hvb.1 hvb.2)
              clear hv
              generalize kindD v = kv at *
              generalize fndTo hd b k p s = f at *
              generalize inDb hd b p s = o at *
              cases o
              · go_wp2
                go_round
                case measure => simp [intOf]; omega
                case rel => exact ⟨s + 1, by omega, by go_num, by rw [HSU.out]; simp, HB2.out⟩
              · by_cases hkv : kv = (k : Int)
                · subst hkv
                  cases f <;> (
                    go_wp2_with (first | (go_at_call 92; refine (AKv.out _).mono ?_; rintro e w' ⟨rfl, hww⟩; obtain rfl := hww.symm; clear hww) | (go_at_call 91; refine (AWs.out _).mono ?_; rintro e w1 ⟨rfl, hb1⟩; have HB3 := hide (HB2.out.trans (hb1.mono HB2.out.size)); clear hb1))
                    go_round
                    case measure => simp [intOf]; omega
                    case rel => exact ⟨s + 1, by omega, by go_num, by rw [HSU.out]; simp, HB3.out⟩)
                · have HKN := hide hkv
                  have hkv' : (kv == (k : Int)) = false := by simpa using hkv
                  clear hkv
                  cases f <;> (
                    go_wp2_with (first | (go_at_call 92; refine (AKv.out _).mono ?_; rintro e w' ⟨rfl, hww⟩; obtain rfl := hww.symm; clear hww) | (go_at_call 91; refine (AWs.out _).mono ?_; rintro e w1 ⟨rfl, hb1⟩; have HB3 := hide (HB2.out.trans (hb1.mono HB2.out.size)); clear hb1))
                    go_round
                    case measure => simp [intOf]; omega
                    case rel => exact ⟨s + 1, by omega, by go_num, by rw [HSU.out]; simp [HKN.out], HB3.out⟩)
            · have e : s = 128 := by omega
              subst e
              have HR2 := hide (HR.out.below HB2.out)
              have hsz2 := HB2.out.size
              have hyes := hide (soloRow_yes (fndP its k i) k i p)
              have hno := hide (soloRow_no (fndP its k i) k i p)
              rw [HFD.out] at hyes hno
              generalize fndTo hd b k p 128 = f at *
              cases f
              · go_wp2
                go_round
                case measure => simp [intOf]; omega
                case rel => exact ⟨p + 1, X, by omega, by go_num, by rw [hno.out (by first | rfl | trivial)]; exact HX.out, HR2.out⟩
              · go_wp2_with (first | (at_builtin; refine wpList_push (f := rpV) rpV_len rfl _ _ 35 rfl (w.heap.size) 41 i0 _ 24 Try.underlying35 hj0 hz0 hz1 hz2 rfl (by decide) _ X ((k : Int), ((i : Nat) : Int), ((p : Nat) : Int)) rfl ⟨_, 0, none⟩ rfl ?_ ?_ ?_ ?_ ?_ ?_ ?_; (exact HR2.out.own.alloc _); (exact newsL _ _ _); (intro x hx; simp [rpV] at hx; rcases hx with rfl | rfl | rfl <;> rfl); (unfold maxLen; omega); (omega); (exact (by simp; omega)); intro ao' cc' w2 hown' hbel' hsame' hat'; have HOw2 := hide hown'; have HBLw2 := hide hbel'; clear hown' hbel' hsame' hat'))
                go_round
                case measure => simp [intOf]; omega
                case rel => exact ⟨p + 1, _, by omega, by go_num, by rw [hyes.out (by first | rfl | trivial), ← List.append_assoc, ← HX.out], HR2.out.push HOw2.out HBLw2.out⟩
        · have e : p = b.length + 1 := by omega
          subst e
          rw [← HLD.out] at HX
          rw [← soloK_succ] at HX
          have hXe := HX.out
          subst hXe
          go_wp2
          go_round
          case measure => simp [intOf]; omega
          case rel => exact ⟨i + 1, by omega, by go_num, HR.out⟩
    · have e : i = its.length := by omega
      subst e
      go_wp2
      go_ret
      exact ⟨ao, cc, rfl, HR.out⟩
end Go.Proofs.Ytecmfdkhcffpmaa
