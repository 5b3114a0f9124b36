/- StO, StP. -/
import Derived.Test.YtecmfdkhcffpmabB42
/- Contracts of the program's reports: races; kinds in order. -/
namespace Go.Proofs.Ytecmfdkhcffpmab
open Go.RowKit
set_option linter.unusedSimpArgs false
set_option linter.unusedVariables false
set_option maxHeartbeats 8000000
open Mc

set_option maxRecDepth 100000 in
theorem races_any (w : World) (aao : Option Addr) (ac : Nat) (K : List Kn) (hK : KnAll w (.slice aao K.length ac) K) :
    Calls Try.prog 45 #[.slice aao K.length ac] w fun e w' => ∃ ao cc, e = .returned (.slice ao (raceL (fun c => raceP c (K.map kp)) 4).length cc) ∧ RepI w w' (.slice ao (raceL (fun c => raceP c (K.map kp)) 4).length cc) (raceL (fun c => raceP c (K.map kp)) 4) := by
  have HK := hide hK
  have AR : Hid (∀ (c : Nat) (W : World), c < 4 → Below w.heap.size w W → Calls Try.prog 56 #[.slice aao K.length ac, .int .i64 c] W fun e w' => e = .returned (.bool ((fun c => raceP c (K.map kp)) c)) ∧ Below W.heap.size W w') := hide (fun c W hc hb => raceAt_any W aao ac K c hc (hK.below hb))
  clear hK
  have HR0 := hide (RepI.new w)
  generalize (fun c => raceP c (K.map kp)) = P at *
  obtain ⟨i0, hj0, hz0, hz1, hz2⟩ := info_parts Try.infoRep
  go_enter Try.func45, Try.ntmps45
  go_wp2
  go_loopw [3, 4] (fun a d wr => ∃ c : Nat, c ≤ 4 ∧ d = .int .i64 c ∧ RepI w wr a (raceL P c)) (fun _ d _ => 4 - (intOf d).toNat)
  case atStart => exact ⟨0, by omega, rfl, HR0.out⟩
  case round =>
    clear HR0
    obtain ⟨c, hc, rfl, hr⟩ := hrel
    have HR := hide hr
    clear hr
    obtain ⟨ao, cc, hv⟩ := own_v HR.out.own
    subst hv
    by_cases hlt : c < 4
    · have hc0 : (0 : Int) ≤ (c : Int) := by omega
      have hlen := raceL_len P c
      have hsz := HR.out.b.size
      have hyes := hide (raceL_yes P c)
      have hno := hide (raceL_no P c)
      have ARc := hide (fun W hb => AR.out c W hlt hb)
      generalize P c = o at *
      cases o
      · go_wp2_with (first | (go_at_call 56; refine (ARc.out _ HR.out.b).mono ?_; rintro e w1 ⟨rfl, hb1⟩; have HR1 := hide (HR.out.below hb1); have hz := hb1.size; clear hb1))
        go_round
        case measure => simp [intOf]; omega
        case rel => exact ⟨c + 1, by omega, by go_num, by rw [hno.out (by first | rfl | trivial)]; exact HR1.out⟩
      · go_wp2_with (first | (at_builtin; refine wpList_push (f := rpV) rpV_len rfl _ _ 35 rfl (w.heap.size) 75 i0 _ 24 Try.underlying35 hj0 hz0 hz1 hz2 rfl (by decide) _ (raceL P c) (7, -1, ((c : Nat) : Int)) rfl ⟨_, 0, none⟩ rfl ?_ ?_ ?_ ?_ ?_ ?_ ?_; (exact HR1.out.own.alloc _); (exact newsL _ _ _); (intro x hx; simp [rpV] at hx; rcases hx with rfl | rfl | rfl <;> rfl); (unfold maxLen; omega); (omega); (exact (by simp; omega)); intro ao' cc' w2 hown' hbel' hsame' hat'; have HOw2 := hide hown'; have HBLw2 := hide hbel'; clear hown' hbel' hsame' hat') | (go_at_call 56; refine (ARc.out _ HR.out.b).mono ?_; rintro e w1 ⟨rfl, hb1⟩; have HR1 := hide (HR.out.below hb1); have hz := hb1.size; clear hb1))
        go_round
        case measure => simp [intOf]; omega
        case rel => exact ⟨c + 1, by omega, by go_num, by rw [hyes.out (by first | rfl | trivial)]; exact HR1.out.push HOw2.out HBLw2.out⟩
    · have e : c = 4 := by omega
      subst e
      go_wp2
      go_ret
      exact ⟨ao, cc, rfl, HR.out⟩
/-- Kinds by places, in memory. -/
structure Ki where
  g : Nat
  n : Nat
  f : Nat → Int
def kiV (k : Ki) : List Value := [.slice (some ⟨k.g, 0, none⟩) k.n k.n]
theorem kiV_len (k : Ki) : (kiV k).length = 1 := rfl
structure KiAll (w : World) (v : Value) (M : List Ki) : Prop where
  own : w.ownsRow 0 32 1 v M.length (M.flatMap kiV)
  each : ∀ m ∈ M, Blk w m.g m.n (fun p => .int .i64 (m.f p)) ∧ m.n ≤ 301
  len : M.length ≤ 8
theorem KiAll.below {w w' : World} {v : Value} {M : List Ki} (h : KiAll w v M) (hb : Below w.heap.size w w') : KiAll w' v M := ⟨own_belowZ h.own hb, fun m hm => ⟨(h.each m hm).1.below hb, (h.each m hm).2⟩, h.len⟩
def kiP (M : List Ki) (k i p : Nat) : Bool := match M[i]? with | some m => decide (m.f p = (k : Int)) | none => false
def kiN (M : List Ki) (i : Nat) : Nat := match M[i]? with | some m => m.n | none => 0
theorem kiP_at {M : List Ki} {i : Nat} {m : Ki} (h : M[i]? = some m) (k p : Nat) : kiP M k i p = decide (m.f p = (k : Int)) := by simp [kiP, h]
theorem kiN_at {M : List Ki} {i : Nat} {m : Ki} (h : M[i]? = some m) : kiN M i = m.n := by simp [kiN, h]
theorem kiN_le {w : World} {v : Value} {M : List Ki} (h : KiAll w v M) (i : Nat) : kiN M i ≤ 301 := by
  unfold kiN
  cases hq : M[i]? with
  | none => simp
  | some m => exact (h.each m (List.mem_of_getElem? hq)).2
set_option maxRecDepth 100000 in
theorem inOrder_any (w : World) (aao : Option Addr) (ac : Nat) (M : List Ki) (hM : KiAll w (.slice aao M.length ac) M) :
    Calls Try.prog 54 #[.slice aao M.length ac] w fun e w' => ∃ ao cc, e = .returned (.slice ao (solos (kiP M) (kiN M) M.length 5).length cc) ∧ RepI w w' (.slice ao (solos (kiP M) (kiN M) M.length 5).length cc) (solos (kiP M) (kiN M) M.length 5) := by
  have HM := hide hM
  have hl8 := hM.len
  have HN : Hid (∀ i, kiN M i ≤ 301) := hide (kiN_le hM)
  clear hM
  have HR0 := hide (RepI.new w)
  obtain ⟨i0, hj0, hz0, hz1, hz2⟩ := info_parts Try.infoRep
  go_enter Try.func54, Try.ntmps54
  go_wp2
  go_loopw [3, 4] (fun a d wr => ∃ (n : Nat) (X : List Rp), n ≤ 5 ∧ d = .int .i64 ((n : Int) + 1) ∧ X = solos (kiP M) (kiN M) M.length n ∧ RepI w wr a X) (fun _ d _ => 6 - (intOf d).toNat)
  case atStart => exact ⟨0, [], by omega, rfl, rfl, HR0.out⟩
  case round =>
    clear HR0
    obtain ⟨n, X, hn, rfl, hX, hr⟩ := hrel
    have HR := hide hr
    have HX := hide hX
    clear hr hX
    obtain ⟨ao, cc, hv⟩ := own_v HR.out.own
    subst hv
    have hnI : (n : Int) ≤ 5 := by omega
    by_cases hnt : n < 5
    · have hn4 : (n : Int) + 1 ≤ 5 := by omega
      go_wp2
      go_loopw [3, 16] (fun a d wr => ∃ (i : Nat) (X : List Rp), i ≤ M.length ∧ d = .int .i64 i ∧ X = solos (kiP M) (kiN M) M.length n ++ soloK (kiP M) (kiN M) (n + 1) i ∧ RepI w wr a X) (fun _ d _ => M.length - (intOf d).toNat)
      case atStart => exact ⟨0, X, by omega, rfl, by rw [soloK_zero, List.append_nil]; exact HX.out, HR.out⟩
      case round =>
        clear HR HX
        obtain ⟨i, X, hi, rfl, hX, hr⟩ := hrel
        have HR := hide hr
        have HX := hide hX
        clear hr hX
        obtain ⟨ao, cc, hv⟩ := own_v HR.out.own
        subst hv
        by_cases hit : i < M.length
        · obtain ⟨m, hm⟩ : ∃ m, M[i]? = some m := ⟨M[i], List.getElem?_eq_getElem hit⟩
          have HMI := hide hm
          obtain ⟨g0, cap0, hv0, _, hg0, _, _, hr0⟩ := own_el kiV_len (own_belowZ HM.out.own HR.out.b) hm
          cases hv0
          have x0 : wr.cell? ⟨g0, i, none⟩ = some (.slice (some ⟨m.g, 0, none⟩) m.n m.n) := by have := hr0 0 _ rfl; simpa using this
          have HBK := hide (HM.out.each m (List.mem_of_getElem? hm))
          have hmn := HBK.out.2
          have hi0 : (0 : Int) ≤ (i : Int) := by omega
          clear hm hr0
          go_wp2
          go_loopw [3, 23] (fun a d wr => ∃ (p : Nat) (X : List Rp), p ≤ m.n ∧ d = .int .i64 p ∧ X = solos (kiP M) (kiN M) M.length n ++ soloK (kiP M) (kiN M) (n + 1) i ++ soloRow (kiP M (n + 1) i) (n + 1) i p ∧ RepI w wr a X) (fun _ d _ => m.n - (intOf d).toNat)
          case atStart => exact ⟨0, X, by omega, rfl, by rw [soloRow_zero, List.append_nil]; exact HX.out, HR.out⟩
          case round =>
            clear HR HX x0
            obtain ⟨p, X, hp, rfl, hX, hr⟩ := hrel
            have HR := hide hr
            have HX := hide hX
            clear hr hX
            obtain ⟨ao, cc, hv⟩ := own_v HR.out.own
            subst hv
            by_cases hpt : p < m.n
            · have y0 : wr.cell? ⟨m.g, p, none⟩ = some (.int .i64 (m.f p)) := by
                rw [HR.out.b.cell (by exact HBK.out.1.lt)]
                exact HBK.out.1.cell p hpt
              have hp0 : (0 : Int) ≤ (p : Int) := by omega
              have hsz := HR.out.b.size
              have hXl : X.length ≤ 100000 := by
                have h1 := solos_len (kiP M) (kiN M) M.length n (fun i _ => HN.out i)
                have h2 := soloK_len (kiP M) (kiN M) (n + 1) i (fun i _ => HN.out i)
                have h3 := soloRow_len (kiP M (n + 1) i) (n + 1) i p
                have h4 : n * (M.length * 301) ≤ 5 * (8 * 301) := Nat.mul_le_mul (by omega) (Nat.mul_le_mul_right _ hl8)
                have h5 : i * 301 ≤ 8 * 301 := Nat.mul_le_mul_right _ (by omega)
                rw [HX.out, List.length_append, List.length_append]
                omega
              have hyes := hide (soloRow_yes (kiP M (n + 1) i) (n + 1) i p)
              have hno := hide (soloRow_no (kiP M (n + 1) i) (n + 1) i p)
              rw [kiP_at HMI.out] at hyes hno
              generalize m.f p = v at *
              by_cases hv : v = (n : Int) + 1
              · subst hv
                go_wp2_with (first | (at_builtin; refine wpList_push (f := rpV) rpV_len rfl _ _ 35 rfl (w.heap.size) 75 i0 _ 24 Try.underlying35 hj0 hz0 hz1 hz2 rfl (by decide) _ X ((n : Int) + 1, ((i : Nat) : Int), ((p : Nat) : Int)) rfl ⟨_, 0, none⟩ rfl ?_ ?_ ?_ ?_ ?_ ?_ ?_; (exact HR.out.own.alloc _); (exact newsL _ _ _); (intro x hx; simp [rpV] at hx; rcases hx with rfl | rfl | rfl <;> rfl); (unfold maxLen; omega); (omega); (exact (by simp; omega)); intro ao' cc' w2 hown' hbel' hsame' hat'; have HOw2 := hide hown'; have HBLw2 := hide hbel'; clear hown' hbel' hsame' hat'))
                go_round
                case measure => simp [intOf]; omega
                case rel => exact ⟨p + 1, _, by omega, by go_num, by rw [hyes.out (by simp), ← List.append_assoc, ← HX.out]; rfl, HR.out.push HOw2.out HBLw2.out⟩
              · have HVN := hide hv
                have hv' : (v == (n : Int) + 1) = false := by simpa using hv
                go_wp2
                go_round
                case measure => simp [intOf]; omega
                case rel => exact ⟨p + 1, X, by omega, by go_num, by rw [hno.out (by simp; exact HVN.out)]; exact HX.out, HR.out⟩
            · have e : p = m.n := by omega
              subst e
              go_wp2
              go_round
              case measure => simp [intOf]; omega
              case rel => exact ⟨i + 1, X, by omega, by go_num, by rw [soloK_succ, kiN_at HMI.out, ← List.append_assoc]; exact HX.out, HR.out⟩
        · have e : i = M.length := by omega
          subst e
          go_wp2
          go_round
          case measure => simp [intOf]; omega
          case rel => exact ⟨n + 1, X, by omega, by go_num, by rw [solos_succ]; exact HX.out, HR.out⟩
    · have e : n = 5 := by omega
      subst e
      go_wp2
      go_ret
      exact ⟨ao, cc, by rw [← HX.out]; rfl, by rw [← HX.out]; exact HR.out⟩
end Go.Proofs.Ytecmfdkhcffpmab
/- Contracts of the program's reports: kinds; of items alone. -/
namespace Go.Proofs.Ytecmfdkhcffpmab
open Go.RowKit
set_option linter.unusedSimpArgs false
set_option linter.unusedVariables false
set_option maxHeartbeats 8000000
open Mc

def stV (r : Rc) : List Value := (stA r.p r.h r.off).toList
theorem stV_arr (r : Rc) : (stV r).toArray = stA r.p r.h r.off := rfl
theorem Try.iStV (r : Rc) : (Try.prog.info? 100).map (·.size) = some (stV r).length := Try.iState
theorem Row.st8 {w : World} {g : Nat} {r : Rc} (h : Row w g (rcA r) 118) : w.rangeAt g 0 (stV r) := h.range 0 _ (fun j v hj => by
  rw [Nat.zero_add]
  have hlt : j < 8 := (List.getElem?_eq_some_iff.1 hj).1
  show (rcV r).toArray[j]? = _
  rw [List.getElem?_toArray, rcV, List.getElem?_append_left (by exact hlt)]
  exact hj)
theorem seen_ints (w : World) (n : Nat) : Blk (w.alloc (.cells (madeCells #[.int .i64 0] n) 3)) w.heap.size n (fun i => .int .i64 0) := by
  refine ⟨_, _, heap_alloc_last _ _, fun i hi => ?_⟩
  rw [madeCells_at _ _ _ hi]
  show some ((#[Value.int .i64 0])[i % 1]!) = _
  rw [Nat.mod_one]; rfl
structure KdI (w W : World) (k : Kn) (kao : Option Addr) (kc N g : Nat) (f : Nat → Int) : Prop where
  kr : Row W w.heap.size #[.bool k.hd, .bool k.hd, .string k.s, .slice (some ⟨k.lg, 0, none⟩) k.s.size k.s.size, .slice kao k.L.length kc] 111
  bl : Blk W g N (fun p => .int .i64 (f p))
  ge : w.heap.size < g
  b : Below w.heap.size w W
theorem KdI.below {w W W' : World} {k : Kn} {kao : Option Addr} {kc N g : Nat} {f : Nat → Int} (h : KdI w W k kao kc N g f) (hb : Below W.heap.size W W') : KdI w W' k kao kc N g f := ⟨h.kr.below hb, h.bl.below hb, h.ge, below_go h.b hb⟩
theorem KdI.set {w W : World} {k : Kn} {kao : Option Addr} {kc N g : Nat} {f : Nat → Int} (h : KdI w W k kao kc N g f) (p : Nat) (v : Int) : KdI w (W.setCell ⟨g, p, none⟩ (.int .i64 v)) k kao kc N g (fun q => if q = p then v else f q) := by
  have hg := h.ge
  refine ⟨h.kr.setO (by omega) _ _, (h.bl.set p _).congr (fun i hi => ?_), h.ge, h.b.setCell (show w.heap.size ≤ g by omega) _⟩
  by_cases e : i = p <;> simp [e]
set_option maxRecDepth 100000 in
theorem kinds_any (w : World) (k : Kn) (kao : Option Addr) (kc N : Nat) (hN : k.s.size + 1 = N) (hkv : k.v = .slice kao k.L.length kc) (hin : KnIn w k) :
    Calls Try.prog 53 #[.agg #[.bool k.hd, .bool k.hd, .string k.s, .slice (some ⟨k.lg, 0, none⟩) k.s.size k.s.size, .slice kao k.L.length kc]] w fun e w' => ∃ g, e = .returned (.slice (some ⟨g, 0, none⟩) N N) ∧ w.heap.size ≤ g ∧ Blk w' g N (fun p => .int .i64 (kAt k.hd k.s.data.toList k.L p)) ∧ Below w.heap.size w w' := by
  have HIN := hide hin
  have HKV := hide hkv
  have hLl : k.L.length ≤ 100000 := by have h1 := hin.fin.len hin.gb; have h2 := hin.gb.short; have h3 := Nat.mul_le_mul_right 128 (show k.s.data.toList.length + 1 ≤ 301 by omega); omega
  have hok := hide hin.gb.pair
  have hks : k.s.size ≤ 300 := hin.short
  clear hin hkv
  have AE := hide (fun W => codeEnd_any k.hd k.s (some ⟨k.lg, 0, none⟩) k.s.size k.s.size W (by omega))
  have hmk := fun W => mk_ints W N (by omega)
  have hn1 : (k.s.size : Int) + 1 = (N : Int) := by omega
  have hNN : N ≤ 301 := by omega
  have HNN := hide hN
  clear hN
  have HKR0 := hide (Row.new w #[.bool k.hd, .bool k.hd, .string k.s, .slice (some ⟨k.lg, 0, none⟩) k.s.size k.s.size, .slice kao k.L.length kc] 111)
  have HB0 := hide (below_one w (.cells #[.bool k.hd, .bool k.hd, .string k.s, .slice (some ⟨k.lg, 0, none⟩) k.s.size k.s.size, .slice kao k.L.length kc] 111))
  go_enter Try.func53, Try.ntmps53
  go_wp2_with (first | (go_at_call 70; refine (AE.out _).mono ?_; rintro e w1 ⟨rfl, hb1⟩; have HK1 : Hid (KdI w (w1.alloc (.cells (madeCells #[.int .i64 0] N) 3)) k kao kc N w1.heap.size (fun _ => 0)) := hide ⟨(HKR0.out.below hb1).alloc _, seen_ints w1 _, (HKR0.out.below hb1).lt, below_new (below_go HB0.out hb1) _⟩; have y4 : (w1.alloc (.cells (madeCells #[.int .i64 0] N) 3)).cell? ⟨w.heap.size, 4, none⟩ = some (.slice kao k.L.length kc) := HK1.out.kr.cell 4 rfl; clear hb1) | (refine wpList_load_mid rfl 97 _ rfl _ _ rfl [.bool k.hd, .string k.s, .slice (some ⟨k.lg, 0, none⟩) k.s.size k.s.size] _ ?_ Try.underlying97 rfl Try.iCode ?_; (exact HKR0.out.code3)))
  clear y4 HKR0 HB0 AE hmk
  generalize w1.alloc (.cells (madeCells #[.int .i64 0] N) 3) = W at *
  generalize w1.heap.size = gk at *
  go_loopw [16] (fun a wr => ∃ j : Nat, j ≤ k.L.length ∧ a = .int .i64 j ∧ KdI w wr k kao kc N gk (kAt k.hd k.s.data.toList (k.L.take j))) (fun a _ => k.L.length - (intOf a).toNat)
  case atStart => exact ⟨0, by omega, rfl, HK1.out⟩
  case round =>
    clear HK1
    obtain ⟨j, hj, rfl, hk⟩ := hrel
    have HK := hide hk
    clear hk
    by_cases hjt : j < k.L.length
    · obtain ⟨r, hr⟩ : ∃ r, k.L[j]? = some r := ⟨k.L[j], List.getElem?_eq_getElem hjt⟩
      have hso := HIN.out.fin.ok HIN.out.gb (List.mem_of_getElem? hr)
      have hrN : r.p < N := by have h1 := hso.2.le; have h3 : r.st.1 = r.p := rfl; have h4 := Wd.len_str k.s; have h5 := HNN.out; omega
      have hrh : r.h < 64 := hso.1
      obtain ⟨g1, cap1, hv1, _, hg1, _, _, hr1⟩ := own_rc (HKV.out ▸ (own_belowZ HIN.out.own HK.out.b)) hr
      cases hv1
      have HR1 : Hid (wr.rangeAt g1 (j * 10) (rcV r)) := hide hr1
      have hj0 : (0 : Int) ≤ (j : Int) := by omega
      obtain ⟨f, hf⟩ : ∃ f, kAt k.hd k.s.data.toList (k.L.take j) = f := ⟨_, rfl⟩
      have HTK := hide (kAt_take (hd := k.hd) (b := k.s.data.toList) hr)
      rw [hf] at HK HTK
      have AK : Hid (∀ W, Calls Try.prog 71 #[.agg [.bool k.hd, .string k.s, .slice (some ⟨k.lg, 0, none⟩) k.s.size k.s.size].toArray, .agg (stA r.p r.h r.off)] W fun e w' => e = .returned (.int .i64 (kd k.hd k.s.data.toList r.st)) ∧ Below W.heap.size W w') := hide (fun W => kindAt_any k.hd k.s (some ⟨k.lg, 0, none⟩) k.s.size k.s.size r.p r.h r.off W (by omega) (by omega) hrh hok.out)
      have HUP : Hid (kUp k.hd k.s.data.toList f r = fun p => if p = r.p ∧ kd k.hd k.s.data.toList r.st ≠ 0 then kd k.hd k.s.data.toList r.st else f p) := hide rfl
      rw [HTK.out.symm] at HUP
      have hkb := kd_bd k.hd k.s.data.toList r.st
      clear hr hr1 hso hf HTK
      generalize kd k.hd k.s.data.toList r.st = v at *
      have hrI : (r.p : Int) < (N : Int) := by omega
      have hrI0 : (0 : Int) ≤ (r.p : Int) := by omega
      by_cases hv : v = 0
      · subst hv
        go_wp2_with (first | (go_at_call 71; refine (AK.out _).mono ?_; rintro e w2 ⟨rfl, hb2⟩; have HK2 := hide (HK1.out.below hb2); clear hb2; have q1 := HK2.out.bl.cell r.p hrN; have f1 := HK2.out.bl.frozen r.p) | (refine wpList_load_mid rfl 100 _ rfl _ _ rfl (stV r) _ ?_ Try.underlying100 rfl (Try.iStV r) ?_; (exact HRR1.out.st8); rw [stV_arr]) | (refine wpList_load_mid rfl 97 _ rfl _ _ rfl [.bool k.hd, .string k.s, .slice (some ⟨k.lg, 0, none⟩) k.s.size k.s.size] _ ?_ Try.underlying97 rfl Try.iCode ?_; (exact HK1.out.kr.code3)) | (refine wpList_store_row rfl 118 _ _ rfl wr.heap.size (rcA r) rfl rfl 118 #[.int .i64 0, .bool false, .bool false, .bool false, .bool false, .bool false, .bool false, .bool false, .int .i64 0, .bool false] ?_ (Try.iRc _) rfl (rcA_one _) ?_; (exact (Row.new wr #[.int .i64 0, .bool false, .bool false, .bool false, .bool false, .bool false, .bool false, .bool false, .int .i64 0, .bool false] 118).raw); rw [World.setRow_alloc_new]; have HK1 := hide (HK.out.below (below_one wr (.cells (rcA r) 118))); have HRR1 := hide (Row.new wr (rcA r) 118); generalize wr.alloc (.cells (rcA r) 118) = w1 at *; have p1 : w1.cell? ⟨wr.heap.size, 0, none⟩ = some (.int .i64 (r.p : Int)) := HRR1.out.cell 0 (rcA_p r)) | (refine wpList_load_mid rfl 118 _ rfl _ _ rfl (rcV r) _ ?_ Try.underlying118 rfl Try.iReached ?_; (exact HR1.out)))
        go_round
        case measure => simp [intOf]; omega
        case rel => exact ⟨j + 1, by omega, by go_num, by rw [HUP.out]; simp; exact HK2.out⟩
      · have HVN := hide hv
        go_wp2_with (first | (go_at_call 71; refine (AK.out _).mono ?_; rintro e w2 ⟨rfl, hb2⟩; have HK2 := hide (HK1.out.below hb2); clear hb2; have q1 := HK2.out.bl.cell r.p hrN; have f1 := HK2.out.bl.frozen r.p) | (refine wpList_load_mid rfl 100 _ rfl _ _ rfl (stV r) _ ?_ Try.underlying100 rfl (Try.iStV r) ?_; (exact HRR1.out.st8); rw [stV_arr]) | (refine wpList_load_mid rfl 97 _ rfl _ _ rfl [.bool k.hd, .string k.s, .slice (some ⟨k.lg, 0, none⟩) k.s.size k.s.size] _ ?_ Try.underlying97 rfl Try.iCode ?_; (exact HK1.out.kr.code3)) | (refine wpList_store_row rfl 118 _ _ rfl wr.heap.size (rcA r) rfl rfl 118 #[.int .i64 0, .bool false, .bool false, .bool false, .bool false, .bool false, .bool false, .bool false, .int .i64 0, .bool false] ?_ (Try.iRc _) rfl (rcA_one _) ?_; (exact (Row.new wr #[.int .i64 0, .bool false, .bool false, .bool false, .bool false, .bool false, .bool false, .bool false, .int .i64 0, .bool false] 118).raw); rw [World.setRow_alloc_new]; have HK1 := hide (HK.out.below (below_one wr (.cells (rcA r) 118))); have HRR1 := hide (Row.new wr (rcA r) 118); generalize wr.alloc (.cells (rcA r) 118) = w1 at *; have p1 : w1.cell? ⟨wr.heap.size, 0, none⟩ = some (.int .i64 (r.p : Int)) := HRR1.out.cell 0 (rcA_p r)) | (refine wpList_load_mid rfl 118 _ rfl _ _ rfl (rcV r) _ ?_ Try.underlying118 rfl Try.iReached ?_; (exact HR1.out)))
        go_round
        case measure => simp [intOf]; omega
        case rel => exact ⟨j + 1, by omega, by go_num, by rw [HUP.out]; simp only [ne_eq, HVN.out, not_false_eq_true, and_true]; exact HK2.out.set r.p v⟩
    · have e : j = k.L.length := by omega
      subst e
      rw [List.take_length] at HK
      go_wp2
      go_ret
      exact ⟨gk, rfl, Nat.le_of_lt HK.out.ge, HK.out.bl, HK.out.b⟩
end Go.Proofs.Ytecmfdkhcffpmab
