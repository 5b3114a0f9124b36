/- Contract: the six locks in another order. -/
import Derived.Test.YtecmfdkhcffpmabB07
import Derived.Test.YtecmfdkhcffpmabB37
import Derived.Test.YtecmfdkhcffpmabKpQ
import Derived.OwnWalk
namespace Go.Proofs.Ytecmfdkhcffpmab
open Go.RowKit
set_option linter.unusedSimpArgs false
set_option linter.unusedVariables false
set_option maxHeartbeats 8000000
open Wd Mc

def inV (x : Nat) : List Value := [.int .i64 (x : Int)]
theorem inV_len (x : Nat) : (inV x).length = 1 := rfl
def lenV : Value → Nat
  | .slice _ n _ => n
  | _ => 0
theorem inV_one (x : Nat) : ∀ u ∈ inV x, u.oneCell' = true := fun u hu => by simp [inV] at hu; subst hu; rfl
/-- While the order is made. -/
structure OrI (w W : World) (lv ov : Value) (L O : List Nat) : Prop where
  b : Below w.heap.size w W
  l : W.ownsRow w.heap.size 3 1 lv L.length (L.flatMap inV)
  o : W.ownsRow w.heap.size 3 1 ov O.length (O.flatMap inV)
  ne : ∀ j, lv.ownBlock = some j → ov.ownBlock ≠ some j
theorem own_lt {W : World} {B : Nat} {t : TypeId} {n m : Nat} {v : Value} {xs : List Value} (h : W.ownsRow B t n v m xs) {g : Nat} (hg : v.ownBlock = some g) : B ≤ g ∧ g < W.heap.size := by
  rcases h.2 with ⟨rfl, _⟩ | ⟨g', cap, cur, rfl, hb, hh, _⟩
  · cases hg
  · cases hg; exact ⟨hb, row_lt hh⟩
theorem own_other {W W' : World} {B : Nat} {t : TypeId} {n m : Nat} {v : Value} {xs : List Value} (h : W.ownsRow B t n v m xs) (hb : ∀ g, v.ownBlock = some g → g < W.heap.size → W'.heap[g]? = W.heap[g]?) : W'.ownsRow B t n v m xs := by
  refine ⟨h.1, ?_⟩
  rcases h.2 with a2 | ⟨g', cap, cur, hv', hg, hh, r⟩
  · exact .inl a2
  · exact .inr ⟨g', cap, cur, hv', hg, by rw [hb g' (by rw [hv']; rfl) (row_lt hh)]; exact hh, r⟩
/-- One more in the one list: the other stands. -/
theorem push_two {w W w5 : World} {o : Obj} {B m : Nat} {t : TypeId} {n : Nat} {av av' ov : Value} {ys : List Value} (hb : Below B w W) (hB : w.heap.size ≤ B ∨ B ≤ W.heap.size) (hBW : B ≤ W.heap.size) (ho : W.ownsRow B t n ov m ys) (ne : ∀ j, av.ownBlock = some j → ov.ownBlock ≠ some j)
    (hbl : Below B (W.alloc o) w5) (hsm : ∀ j, j < (W.alloc o).heap.size → av.ownBlock ≠ some j → w5.heap[j]? = (W.alloc o).heap[j]?) (hat : av'.ownBlock = av.ownBlock ∨ av'.ownBlock = some (W.alloc o).heap.size) :
    Below B w w5 ∧ w5.ownsRow B t n ov m ys ∧ ∀ j, av'.ownBlock = some j → ov.ownBlock ≠ some j := by
  refine ⟨(hb.alloc hBW o).trans hbl, own_other ho (fun g hg hl => ?_), fun j hj hx => ?_⟩
  · rw [hsm g (by simp; omega) (fun e => ne g e hg), heap_alloc_old _ _ hl]
  · have := (own_lt ho hx).2
    rcases hat with e | e
    · exact ne j (e ▸ hj) hx
    · rw [e] at hj; cases hj; simp at this; omega
theorem erase_no {L : List Nat} {k kk : Nat} (hk : k < L.length) (h : k ≠ kk) : (L.take (k + 1)).eraseIdx kk = (L.take k).eraseIdx kk ++ [L[k]] := by
  have e : L.take (k + 1) = L.take k ++ [L[k]] := by simp
  have hl : (L.take k).length = k := by simp; omega
  rw [e]
  by_cases c : kk < k
  · rw [List.eraseIdx_append_of_lt_length (by omega)]
  · rw [List.eraseIdx_append_of_length_le (by omega), hl, List.eraseIdx_of_length_le (l := [L[k]]) (by simp only [List.length_singleton]; omega), List.eraseIdx_of_length_le (l := L.take k) (by omega)]
theorem erase_yes {L : List Nat} {k : Nat} (hk : k < L.length) : (L.take (k + 1)).eraseIdx k = (L.take k).eraseIdx k := by
  have e : L.take (k + 1) = L.take k ++ [L[k]] := by simp
  have hl : (L.take k).length = k := by simp; omega
  rw [e, List.eraseIdx_append_of_length_le (by omega), hl, Nat.sub_self, List.eraseIdx_of_length_le (l := L.take k) (by omega)]
  simp
theorem own_base {W : World} {B B' : Nat} {t : TypeId} {n m : Nat} {v : Value} {xs : List Value} (h : W.ownsRow B t n v m xs) (hB : B' ≤ B) : W.ownsRow B' t n v m xs := by
  refine ⟨h.1, ?_⟩
  rcases h.2 with a2 | ⟨g', cap, cur, hv', hg, r⟩
  · exact .inl a2
  · exact .inr ⟨g', cap, cur, hv', by omega, r⟩
theorem len_v {W : World} {B : Nat} {t : TypeId} {n m : Nat} {v : Value} {xs : List Value} (h : W.ownsRow B t n v m xs) : lenV v = m := by
  obtain ⟨ao, c, rfl⟩ := own_v h
  rfl
set_option maxRecDepth 100000 in
theorem order_any (raw : Int) (w : World) (hr0 : -9223372036854775808 ≤ raw) (hr1 : raw ≤ 9223372036854775807) :
    Calls Try.prog 17 #[.int .i64 raw] w fun e w' => Below w.heap.size w w' ∧ ∃ ao cc, e = .returned (.slice ao 6 cc) ∧ w'.ownsRow w.heap.size 3 1 (.slice ao 6 cc) 6 ((ordP (pickP raw 720).toNat).flatMap inV) := by
  have hp := pickP_bd raw 720 (by decide)
  obtain ⟨v, hv⟩ : ∃ v : Nat, pickP raw 720 = v := ⟨(pickP raw 720).toNat, by omega⟩
  have hv2 : v < 720 := by omega
  have AP := fun W => pick_any raw 720 W hr0 hr1 (by decide) (by decide)
  simp only [hv] at AP
  rw [hv, Int.toNat_natCast]
  have HAP := hide AP
  clear AP hv hp
  generalize hT : ordP v = T
  have HT := hide hT
  have hTl : T.length = 6 := by rw [← hT]; exact ordP_len v
  clear hT
  obtain ⟨i0, hi0, hi⟩ := Option.map_eq_some_iff.1 Try.infoInt
  simp only [Prod.mk.injEq] at hi
  obtain ⟨hz0, hz1, hz2⟩ := hi
  go_enter Try.func17, Try.ntmps17
  go_wp2_with fail
  go_at_call 10
  refine (HAP.out _).mono ?_
  rintro e w1 ⟨rfl, rfl⟩
  go_wp2
  go_loopw [4, 6] (fun lv i wr => ∃ k : Nat, k ≤ 6 ∧ i = .int .i64 k ∧ OrI w1 wr lv (.slice none 0 0) (List.range k) []) (fun _ i _ => 6 - (intOf i).toNat)
  case atStart => exact ⟨0, by omega, rfl, Below.refl _ _, World.ownsRow_nil _ _ _ _, World.ownsRow_nil _ _ _ _, fun j h => by cases h⟩
  case round =>
    obtain ⟨k, hk, rfl, hI⟩ := hrel
    have HI := hide hI
    have hsz := hI.b.size
    clear hI
    by_cases hlt : k < 6
    · go_wp2_with (first | (at_builtin; refine wpList_push (f := inV) inV_len rfl _ _ 32 rfl w1.heap.size 3 i0 (.int .i64 0) 8 Try.underlying32 hi0 hz0 hz1 hz2 rfl (by decide) _ (List.range k) k rfl ⟨_, 0, none⟩ rfl ?_ ?_ ?_ ?_ ?_ ?_ ?_; (exact HI.out.l.alloc _); (exact newsL _ _ _); (exact inV_one _); (unfold maxLen; (simp; omega)); (simp; omega); (simp; omega); intro ao' cc' w5 hown' hbel' hsame' hat'; have HO5 := hide hown'; have HP := hide (push_two HI.out.b (Or.inr hsz) hsz HI.out.o HI.out.ne hbel' hsame' hat'); clear hown' hbel' hsame' hat'))
      go_round
      case measure => simp [intOf]; omega
      case rel =>
        have h5 := HO5.out
        have h6 := HP.out.2.2
        rw [List.length_range] at h5 h6
        exact ⟨k + 1, by omega, by go_num, HP.out.1, by rw [List.range_succ]; exact h5, HP.out.2.1, h6⟩
    · have e : k = 6 := by omega
      rw [e] at HI
      clear e
      go_wp2
      go_loopw [3, 4, 5] (fun vv lv ov wr => ∃ (v : Nat) (L O : List Nat), v < 720 ∧ vv = .int .i64 v ∧ lenV lv = L.length ∧ O.length + L.length = 6 ∧ T = O ++ ordFrom L.length v L ∧ OrI w1 wr lv ov L O) (fun _ lv _ _ => lenV lv)
      case atStart => exact ⟨v, List.range 6, [], hv2, rfl, by obtain ⟨ao, c, e⟩ := own_v HI.out.l; rw [e]; rfl, rfl, HT.out.symm, HI.out⟩
      case round =>
        obtain ⟨v, L, O, hv2, rfl, hlv, hOL, hTL, hI⟩ := hrel
        have HI2 := hide hI
        have HTL := hide hTL
        clear hTL
        obtain ⟨la, lc, rfl⟩ := own_v hI.l
        obtain ⟨oa, oc, rfl⟩ := own_v hI.o
        have hsz2 := hI.b.size
        clear hI
        by_cases h0 : L.length = 0
        · have eL : L = [] := List.length_eq_zero_iff.1 h0
          subst eL
          have eO : O.length = 6 := by simpa using hOL
          have eT : T = O := by have := HTL.out; simpa [ordFrom] using this
          subst eT
          go_wp2
          go_ret
          refine ⟨HI2.out.b, oa, oc, by rw [hTl]; rfl, ?_⟩
          have := HI2.out.o
          rw [hTl] at this
          exact this
        · obtain ⟨kk, hkk⟩ : ∃ kk : Nat, v % L.length = kk := ⟨_, rfl⟩
          obtain ⟨q, hq⟩ : ∃ q : Nat, v / L.length = q := ⟨_, rfl⟩
          have hkl : kk < L.length := by rw [← hkk]; exact Nat.mod_lt _ (by omega)
          have hqv : q ≤ v := by rw [← hq]; exact Nat.div_le_self _ _
          have m1 : (v : Int) % (L.length : Int) = (kk : Int) := by rw [← hkk]; simp
          have m2 : (v : Int) / (L.length : Int) = (q : Int) := by rw [← hq]; simp
          have t1 : (v : Int).tmod (L.length : Int) = (kk : Int) := by rw [Int.tmod_eq_emod_of_nonneg (Int.natCast_nonneg v)]; exact m1
          have t2 : (v : Int).tdiv (L.length : Int) = (q : Int) := by rw [Int.tdiv_eq_ediv_of_nonneg (Int.natCast_nonneg v)]; exact m2
          have hz : (((L.length : Nat) : Int) == 0) = false := beq_eq_false_iff_ne.2 (by omega)
          have hgt : (0 : Int) < (L.length : Int) := by omega
          have hl6 : L.length ≤ 6 := by omega
          have HST : Hid (ordFrom L.length v L = L[kk] :: ordFrom (L.eraseIdx kk).length q (L.eraseIdx kk)) := hide (by
            obtain ⟨n, hn⟩ : ∃ n, L.length = n + 1 := ⟨L.length - 1, by omega⟩
            have e2 : (L.eraseIdx kk).length = n := by rw [List.length_eraseIdx_of_lt hkl]; omega
            rw [e2]
            conv => lhs; rw [hn]
            rw [ordFrom, hkk, hq]
            congr 1
            simp [List.getD, hkl])
          obtain ⟨g1, c1, hv1, _, hg1, _, _, hr1⟩ := own_el inV_len HI2.out.l (List.getElem?_eq_getElem hkl)
          cases hv1
          have d0 : wr.cell? ⟨g1, kk, none⟩ = some (.int .i64 (L[kk] : Int)) := by have := hr1 0 _ rfl; simpa using this
          have hk0 : (0 : Int) ≤ (kk : Int) := by omega
          have hki : (kk : Int) < (L.length : Int) := by omega
          clear hr1 hkk hq
          go_wp2_with (first | (at_builtin; refine wpList_push (f := inV) inV_len rfl _ _ 32 rfl w1.heap.size 3 i0 (.int .i64 0) 8 Try.underlying32 hi0 hz0 hz1 hz2 rfl (by decide) _ O L[kk] rfl ⟨_, 0, none⟩ rfl ?_ ?_ ?_ ?_ ?_ ?_ ?_; (exact HI2.out.o.alloc _); (exact newsL _ _ _); (exact inV_one _); (unfold maxLen; omega); (omega); (simp; omega); intro ao' cc' w5 hown' hbel' hsame' hat'; have HO5 := hide hown'; have HP := hide (push_two HI2.out.b (Or.inr hsz2) hsz2 HI2.out.l (fun j h1 h2 => HI2.out.ne j h2 h1) hbel' hsame' hat'); clear hown' hbel' hsame' hat'))
          have HLW := hide HP.out.2.1
          have hs15 := HP.out.1.size
          go_loopw [8, 9] (fun rv i wi => ∃ j : Nat, j ≤ L.length ∧ i = .int .i64 j ∧ wi.ownsRow w5.heap.size 3 1 rv ((L.take j).eraseIdx kk).length (((L.take j).eraseIdx kk).flatMap inV) ∧ Below w5.heap.size w5 wi) (fun _ i _ => L.length - (intOf i).toNat)
          case atStart => exact ⟨0, by omega, rfl, by simp only [List.take_zero, List.eraseIdx_nil]; exact World.ownsRow_nil _ _ _ _, Below.refl _ _⟩
          case round =>
            obtain ⟨j, hj, rfl, hown, hbe⟩ := hrel
            obtain ⟨ra, rc, hrv⟩ := own_v hown
            subst hrv
            have HOW := hide hown
            have HBE := hide hbe
            have hs56 := hbe.size
            clear hown hbe
            by_cases hjl : j < L.length
            · obtain ⟨g2, c2, hv2, _, hg2, _, _, hr2⟩ := own_el inV_len HLW.out (List.getElem?_eq_getElem hjl)
              cases hv2
              have d1 : wr.cell? ⟨g1, j, none⟩ = some (.int .i64 (L[j] : Int)) := by
                rw [HBE.out.cell hg2]
                have := hr2 0 _ rfl
                simpa using this
              have hj0 : (0 : Int) ≤ (j : Int) := by omega
              have hji : (j : Int) < (L.length : Int) := by omega
              clear hr2
              by_cases hjk : j = kk
              · have bq : ((j : Int) != (kk : Int)) = false := by rw [hjk]; simp
                have HEY := hide (erase_yes hkl)
                rw [← hjk] at HEY
                go_wp2
                go_round
                case measure => simp [intOf]; omega
                case rel =>
                  refine ⟨j + 1, by omega, by go_num, ?_, HBE.out⟩
                  have h := HOW.out
                  rw [← hjk] at h ⊢
                  rw [HEY.out]
                  exact h
              · have bq : ((j : Int) != (kk : Int)) = true := by simp; omega
                have HEN := hide (erase_no hjl hjk)
                have hXl : ((L.take j).eraseIdx kk).length ≤ 6 := by have h1 := List.length_eraseIdx_le (L.take j) kk; have h2 : (L.take j).length ≤ L.length := by simp; omega
                                                                     omega
                generalize (L.take j).eraseIdx kk = X at *
                go_wp2_with (first | (at_builtin; refine wpList_push (f := inV) inV_len rfl _ _ 32 rfl w5.heap.size 3 i0 (.int .i64 0) 8 Try.underlying32 hi0 hz0 hz1 hz2 rfl (by decide) _ X L[j] rfl ⟨_, 0, none⟩ rfl ?_ ?_ ?_ ?_ ?_ ?_ ?_; (exact HOW.out.alloc _); (exact newsL _ _ _); (exact inV_one _); (unfold maxLen; omega); (omega); (simp; omega); intro ao' cc' w6 hown' hbel' hsame' hat'; have HO6 := hide hown'; have HB6 := hide hbel'; clear hown' hbel' hsame' hat'))
                go_round
                case measure => simp [intOf]; omega
                case rel =>
                  refine ⟨j + 1, by omega, by go_num, ?_, (HBE.out.alloc hs56 _).trans HB6.out⟩
                  rw [HEN.out]
                  have h6 := HO6.out
                  rw [List.length_append] at h6 ⊢
                  exact h6
            · have ej : L.take j = L := List.take_of_length_le (by omega)
              have HOX := HOW.out
              rw [ej] at HOX
              have HOXX := hide HOX
              have hel := List.length_eraseIdx_of_lt hkl
              rw [ej] at HOW
              clear HOX
              rw [ej]
              generalize hE : L.eraseIdx kk = E at *
              have HE := hide hE
              clear hE
              go_wp2
              go_round
              case measure => show E.length < L.length; omega
              case rel =>
                refine ⟨q, E, O ++ [L[kk]], by omega, rfl, by first | rfl | exact len_v HOXX.out, by rw [List.length_append, List.length_singleton]; omega, by rw [HTL.out, HST.out]; simp, below_go HP.out.1 HBE.out, own_base HOXX.out hs15, ?_, fun x h1 h2 => ?_⟩
                · exact own_same HO5.out (fun g _ hl => HBE.out.block g hl)
                · have := (own_lt HOXX.out h1).1
                  have := (own_lt HO5.out h2).2
                  omega
end Go.Proofs.Ytecmfdkhcffpmab
