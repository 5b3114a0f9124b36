/- SrcE, KwA, KwB, KwC. -/
import Derived.Test.YtecmfdkhcffpmabB06
import Derived.Test.YtecmfdkhcffpmabB01
import Derived.Deep.RegionWith
import Derived.Test.YtecmfdkhcffpmabB04
import Derived.Laws.BytesArg
import Derived.Laws.IdiomStrings
import Derived.Laws.Concat
import Derived.OwnWalk
import Derived.BigQuiet
import Derived.Deep.QuietTactic
/- Contract of the program's 'split': a source taken apart. -/
namespace Go.Proofs.Ytecmfdkhcffpmab
open Go.RowKit
set_option linter.unusedSimpArgs false
set_option linter.unusedVariables false
set_option maxHeartbeats 800000

theorem Try.i55 : (Try.prog.info? 128).map (·.size) = some 41 := by kernel_rfl

theorem own_mono {w : World} {base base' : Nat} {e : TypeId} {size : Nat} {v : Value} {n : Nat} {xs : List Value} (h : w.ownsRow base e size v n xs) (hb : base' ≤ base) : w.ownsRow base' e size v n xs := by
  obtain ⟨h1, h2⟩ := h
  refine ⟨h1, ?_⟩
  rcases h2 with h2 | ⟨g, cap, cur, hv, hg, r⟩
  · exact .inl h2
  · exact .inr ⟨g, cap, cur, hv, by omega, r⟩

theorem wpList_runTo' {P : Program} {ops : Array Oper} {rest : List Oper} {o : Oper} {a : Act} {w : World} {Q : Exit → Act → World → Prop} (hg : o.guard = none)
    (v : Value) (w' : World) (hrun : (execOp a.eval o).run P w = .ok (.value v) w') (h : wpList P ops Q rest (a.put o.dst v) w') : wpList P ops Q (o :: rest) a w := by
  refine wpList_plain hg fun K hK => ?_
  unfold Oper.wp
  rw [hrun, Oper.upon_value]
  exact hK _ _ h

theorem run_alloc55 (ρ : Operand → Value) (d : Option Tmp) (ty : TypeId) (ps : String) (af : Array Edge) (g : Option (Nat × Bool)) (w : World) :
    (execOp ρ { dst := d, op := .alloc 128, type := ty, pos := ps, after := af, guard := g }).run Try.prog w = .ok (.value (.pointer (some ⟨w.heap.size, 0, none⟩))) (w.alloc (.cells (Wd.pgA (.slice none 0 0) (fun _ => Wd.fn0)) 128)) := by kernel_rfl
theorem run_build55 (ρ : Operand → Value) (d : Option Tmp) (ty : TypeId) (ps : String) (af : Array Edge) (g : Option (Nat × Bool)) (w : World) :
    (execOp ρ { dst := d, op := .build 128 #[], type := ty, pos := ps, after := af, guard := g }).run Try.prog w = .ok (.value (.agg (Wd.pgA (.slice none 0 0) (fun _ => Wd.fn0)))) w := by kernel_rfl
theorem wpList_alloc55 {ops : Array Oper} {rest : List Oper} {o : Oper} {a : Act} {w : World} {Q : Exit → Act → World → Prop} (hg : o.guard = none) (ho : o.op = .alloc 128)
    (h : wpList Try.prog ops Q rest (a.put o.dst (.pointer (some ⟨w.heap.size, 0, none⟩))) (w.alloc (.cells (Wd.pgA (.slice none 0 0) (fun _ => Wd.fn0)) 128))) : wpList Try.prog ops Q (o :: rest) a w := by
  obtain ⟨d, op, ty, ps, af, g⟩ := o
  simp only at ho hg
  subst ho
  exact wpList_runTo' hg _ _ (run_alloc55 _ _ _ _ _ _ _) h
theorem wpList_build55 {ops : Array Oper} {rest : List Oper} {o : Oper} {a : Act} {w : World} {Q : Exit → Act → World → Prop} (hg : o.guard = none) (ho : o.op = .build 128 #[])
    (h : wpList Try.prog ops Q rest (a.put o.dst (.agg (Wd.pgA (.slice none 0 0) (fun _ => Wd.fn0)))) w) : wpList Try.prog ops Q (o :: rest) a w := by
  obtain ⟨d, op, ty, ps, af, g⟩ := o
  simp only at ho hg
  subst ho
  exact wpList_runTo' hg _ _ (run_build55 _ _ _ _ _ _ _) h
theorem pgA_one (ao : Option Addr) (n c : Nat) (F : Nat → Wd.Fn) : (Wd.pgA (.slice ao n c) F).all (·.oneCell') = true := by
  simp [Wd.pgA, Value.oneCell']

theorem wrap_small (n : Int) (h0 : 0 ≤ n) (h1 : n < 1000000) : IntKind.i64.wrap n = n := by
  have e : n % (2 ^ IntKind.i64.bits : Int) = n := Int.emod_eq_of_lt h0 (by simp [IntKind.bits]; omega)
  simp only [IntKind.wrap, e]
  rw [if_neg]
  simp [IntKind.bits]; omega

theorem partOf_str (s : ByteArray) (b i : Nat) (hb : b < s.size) : Wd.partOf s.data.toList b i = ⟨((s[b].toNat : Nat) : Int), b, (s.extract (b + 2) i).data.toList⟩ := by
  rw [Wd.extract_str, Wd.at_str s b hb]; rfl

set_option maxRecDepth 100000 in
theorem split_any (s : ByteArray) (w : World) (hs : s.size ≤ 9000) :
    Calls Try.prog 61 #[.string s] w fun e w' => ∃ v, e = .returned (.agg (Wd.pgA v (Wd.split s.data.toList).F)) ∧ w'.ownsRow w.heap.size 154 3 v (Wd.split s.data.toList).ps.length (Wd.partsV (Wd.split s.data.toList).ps) ∧ Below w.heap.size w w' := by
  have HL := hide (Wd.len_str s)
  go_enter Try.func61, Try.ntmps61
  go_wp2_with (first | (refine wpList_alloc55 rfl rfl ?_) | (refine wpList_build55 rfl rfl ?_) | (refine wpList_store_row rfl 128 _ _ rfl _ _ rfl rfl 128 _ (heap_alloc_last _ _) Try.i55 rfl (pgA_one _ _ _ _) ?_))
  have s0 : (((w.alloc (.cells (Wd.pgA (.slice none 0 0) fun _ => Wd.fn0) 128)).alloc (.cells (Wd.pgA (.slice none 0 0) fun _ => Wd.fn0) 128)).setRow (w.heap.size + 1) (Wd.pgA (.slice none 0 0) fun _ => Wd.fn0)).heap[w.heap.size]? = some (.cells (Wd.pgA (.slice none 0 0) fun _ => Wd.fn0) 128 (0, 0)) := by
    rw [setRow_other _ _ _ _ (by omega)]; exact heap_alloc2_old _ _ _
  have s1 : Pg (((w.alloc (.cells (Wd.pgA (.slice none 0 0) fun _ => Wd.fn0) 128)).alloc (.cells (Wd.pgA (.slice none 0 0) fun _ => Wd.fn0) 128)).setRow (w.heap.size + 1) (Wd.pgA (.slice none 0 0) fun _ => Wd.fn0)) (w.heap.size + 1) [] (fun _ => Wd.fn0) :=
    ⟨.slice none 0 0, setRow_heap _ _ _ _ _ _ (heap_alloc2_new _ _ _), World.ownsRow_nil _ _ _ _⟩
  have s2 : Below w.heap.size w (((w.alloc (.cells (Wd.pgA (.slice none 0 0) fun _ => Wd.fn0) 128)).alloc (.cells (Wd.pgA (.slice none 0 0) fun _ => Wd.fn0) 128)).setRow (w.heap.size + 1) (Wd.pgA (.slice none 0 0) fun _ => Wd.fn0)) :=
    below_setRow (((Below.refl _ _).alloc (Nat.le_refl _) _).alloc (by simp) _) (by omega) _
  generalize ((w.alloc (.cells (Wd.pgA (.slice none 0 0) fun _ => Wd.fn0) 128)).alloc (.cells (Wd.pgA (.slice none 0 0) fun _ => Wd.fn0) 128)).setRow (w.heap.size + 1) (Wd.pgA (.slice none 0 0) fun _ => Wd.fn0) = W at *
  go_loopw [4, 5] (fun a b wr => ∃ k : Nat, k ≤ s.size ∧ b = .int .i64 k ∧ a = .int .i64 (((Wd.splitTo s.data.toList k).begin : Nat) : Int) ∧ wr.heap[w.heap.size]? = some (.cells (Wd.pgA (.slice none 0 0) fun _ => Wd.fn0) 128 (0, 0)) ∧ Pg wr (w.heap.size + 1) (Wd.splitTo s.data.toList k).ps (Wd.splitTo s.data.toList k).F ∧ Below w.heap.size w wr) (fun _ b _ => s.size - (intOf b).toNat)
  case atStart => exact ⟨0, Nat.zero_le _, rfl, rfl, s0, s1, s2⟩
  case round =>
    clear s0 s1 s2
    obtain ⟨k, hk, rfl, rfl, hA, hP, hbe⟩ := hrel
    have HA := hide hA
    have HP := hide hP
    have HB := hide hbe
    clear hA hP hbe
    by_cases hlt : k < s.size
    · have hbg := Wd.splitTo_begin s.data.toList k
      have hpl := Wd.splitTo_len s.data.toList k
      have HS := hide (show Wd.splitTo s.data.toList (k + 1) = Wd.splitStep s.data.toList (Wd.splitTo s.data.toList k) k from rfl)
      have HC := hide (Wd.at_str s k hlt)
      generalize Wd.splitTo s.data.toList k = sp at *
      obtain ⟨bg, ps, F⟩ := sp
      simp only at hbg hpl
      cases hc : (((s[k].toNat : Nat) : Int) == 125)
      · have HE : Hid (Wd.splitTo s.data.toList (k + 1) = ⟨bg, ps, F⟩) := by
          simp at hc
          apply hide; rw [HS.out, Wd.splitStep, if_neg]; rw [← HC.out]; exact fun h => hc h.1
        go_wp2_with fail
        go_roundw
        case rel => exact ⟨k + 1, by omega, by go_num, by rw [HE.out], HA.out, by rw [HE.out]; exact HP.out, HB.out⟩
        case measure => simp [intOf]; omega
      · by_cases hb2 : bg + 2 ≤ k
        · have HE : Hid (Wd.splitTo s.data.toList (k + 1) = ⟨k + 1, ps ++ [Wd.partOf s.data.toList bg k], Wd.addF F (Wd.partOf s.data.toList bg k)⟩) := by
            simp at hc
            apply hide; rw [HS.out, Wd.splitStep, if_pos]; rw [← HC.out]; exact ⟨by omega, hb2⟩
          have b0 := Wd.at_lo s.data.toList bg
          have b1 := Wd.at_hi s.data.toList bg
          have hbs : bg < s.size := by omega
          rw [← Wd.at_str s bg hbs] at b0 b1
          have HPO := hide (partOf_str s bg k hbs)
          have hbi : (0 : Int) ≤ (bg : Int) := by omega
          have hbj : (bg : Int) < (s.size : Int) := by omega
          have hbk : (bg : Int) + 2 ≤ (k : Int) := by omega
          have hbl : (k : Int) ≤ (s.size : Int) := by omega
          go_wp2_with fail
          have hwr := wrap_small ((bg : Int) + 2) (by omega) (by omega)
          have h02 : (0 : Int) ≤ (bg : Int) + 2 := by omega
          go_region_held3 (fun _ => True) (trivial) (first | (go_at_call 79; refine (add_any _ _ _ _ _ _ _ b0 b1 (by omega) (Pg.draw HP.out)).mono ?_; rintro e w' ⟨rfl, hpg, hb⟩))
          go_wp2
          refine ⟨⟨k + 1, by omega, by go_num, by rw [HE.out]; go_num, ?_, by rw [HE.out, HPO.out]; exact hpg, HB.out.drew.trans (hb.mono (by omega))⟩, by simp [intOf]; omega⟩
          rw [hb.block w.heap.size (by omega)]; exact HA.out
        · have HE : Hid (Wd.splitTo s.data.toList (k + 1) = ⟨bg, ps, F⟩) := by
            apply hide; rw [HS.out, Wd.splitStep, if_neg]; exact fun h => hb2 h.2
          go_wp2_with fail
          go_roundw
          case rel => exact ⟨k + 1, by omega, by go_num, by rw [HE.out], HA.out, by rw [HE.out]; exact HP.out, HB.out⟩
          case measure => simp [intOf]; omega
    · obtain rfl : k = s.size := by omega
      obtain ⟨v, hh, hown⟩ := HP.out
      obtain ⟨ao, cap, hv⟩ : ∃ ao cap, v = .slice ao (Wd.splitTo s.data.toList s.size).ps.length cap := by
        rcases hown.2 with ⟨h1, h2⟩ | ⟨g, cap, cur, h1, _⟩
        · exact ⟨none, 0, by rw [h1, h2]⟩
        · exact ⟨_, _, h1⟩
      have hsp : Wd.split s.data.toList = Wd.splitTo s.data.toList s.size := by rw [Wd.split, HL.out]
      have HSP := hide hsp
      have HH := hide hh
      have HO := hide hown
      have HV := hide hv
      clear hh hown hsp hv
      go_wp2_with (first | (refine wpList_load_row rfl 128 _ rfl _ rfl 128 _ (0, 0) _ HH.out Try.underlying128 rfl Try.i55 ?_) | (refine wpList_store_row rfl 128 _ _ rfl _ _ rfl rfl 128 _ HA.out Try.i55 rfl (by rw [HV.out]; exact pgA_one _ _ _ _) ?_))
      refine bodyPost_ret (v := .agg (Wd.pgA v (Wd.split s.data.toList).F)) (results_cell_row Try.results61 _ _ w.heap.size 128 _ (0, 0) _ rfl (by rw [HSP.out]; exact setRow_heap _ _ _ _ _ _ HA.out) Try.underlying128 rfl Try.i55) rfl ⟨v, rfl, ?_, below_setRow HB.out (Nat.le_refl _) _⟩
      rw [HSP.out]
      obtain ⟨r1, r2⟩ := HO.out
      refine ⟨r1, ?_⟩
      rcases r2 with r2 | ⟨g, cap, cur, hv, hg, hh, r⟩
      · exact .inl r2
      · exact .inr ⟨g, cap, cur, hv, by omega, by rw [setRow_other _ _ _ _ (by omega)]; exact hh, r⟩
end Go.Proofs.Ytecmfdkhcffpmab
/- Contracts of the weaver of sources: which of n things, a byte as a text, tokens. -/
namespace Go.Proofs.Ytecmfdkhcffpmab
open Go.RowKit
set_option linter.unusedSimpArgs false
set_option linter.unusedVariables false
set_option maxHeartbeats 8000000
open Wd

theorem mkS_app (u v : List UInt8) : Wd.mkS u ++ Wd.mkS v = Wd.mkS (u ++ v) := by
  unfold Wd.mkS
  exact ByteArray.mk_append_mk u v
/-- Two texts as one. -/
theorem wpList_cat {P : Program} {ops : Array Oper} {rest : List Oper} {o : Oper} {a : Act} {w : World} {Q : Exit → Act → World → Prop} (hg : o.guard = none) (ty ty2 : TypeId) (x y : Operand) (ho : o.op = .binOp .add ty x y ty2)
    (u v : List UInt8) (hx : a.eval x = .string (Wd.mkS u)) (hy : a.eval y = .string (Wd.mkS v)) (hl : u.length + v.length ≤ 9223372036854775807) (h : wpList P ops Q rest (a.put o.dst (.string (Wd.mkS (u ++ v)))) w) : wpList P ops Q (o :: rest) a w := by
  refine wpList_runTo' hg (.string (Wd.mkS (u ++ v))) w ?_ h
  unfold execOp
  have e := run_string_add_sum (P := P) w (Wd.mkS u) (Wd.mkS v) (by rw [Wd.mkS_size, Wd.mkS_size]; exact hl)
  rw [mkS_app] at e
  simp [ho, hx, hy, Sem.run_bind, Sem.run_pure, binOp, eqGuard, e, Result.andThen_ok]
theorem pick_any (c n : Int) (w : World) (hc0 : -9223372036854775808 ≤ c) (hc1 : c ≤ 9223372036854775807) (hn : 0 < n) (hn1 : n ≤ 9223372036854775807) :
    Calls Try.prog 10 #[.int .i64 c, .int .i64 n] w fun e w' => e = .returned (.int .i64 (Wd.pickP c n)) ∧ w' = w := by
  have hz : (n == 0) = false := by simp; omega
  have hp := Wd.pickP_bd c n hn
  by_cases h : c < 0
  · have e : Wd.pickP c n = (-(c + 1)).tmod n := by unfold Wd.pickP; rw [if_pos h, Int.tmod_eq_emod_of_nonneg (by omega)]
    have HE := hide e
    rw [e] at hp
    clear e
    go_enter Try.func10, Try.ntmps10
    go_wp2
    go_ret
    exact ⟨ret_int (by rw [HE.out, Int.neg_tmod]), rfl⟩
  · have e : Wd.pickP c n = c % n := by unfold Wd.pickP; rw [if_neg h]
    have HE := hide e
    rw [e] at hp
    clear e
    go_enter Try.func10, Try.ntmps10
    go_wp2
    go_ret
    exact ⟨ret_int (by rw [HE.out]), rfl⟩
theorem one_any (c : UInt8) (w : World) :
    Calls Try.prog 33 #[.int .u8 (bt c)] w fun e w' => e = .returned (.string (Wd.mkS [c])) ∧ Below w.heap.size w w' := by
  have hcv := run_convert_bytes_back (P := Try.prog) (w.alloc (.cells #[.int .u8 (bt c)] 5 (0, 0))) 30 9 5 ⟨w.heap.size, 0, none⟩ 1 [c] Try.underlying30 Try.underlying5 Try.underlying9 (fun j hj => by
    have e : j = 0 := by simp at hj; omega
    subst e
    show (w.alloc _).cell? ⟨w.heap.size, 0, none⟩ = _
    rw [World.cell?_alloc_mark]; rfl)
  have hb := (Below.refl w.heap.size w).alloc (Nat.le_refl _) (.cells #[.int .u8 (bt c)] 5 (0, 0))
  have HB := hide hb
  clear hb
  simp only [List.length_singleton] at hcv
  go_enter Try.func33, Try.ntmps33
  go_wp2
  go_ret
  exact ⟨rfl, HB.out⟩
theorem one_int (c : Int) (w : World) (h0 : 0 ≤ c) (h1 : c ≤ 255) :
    Calls Try.prog 33 #[.int .u8 c] w fun e w' => e = .returned (.string (Wd.mkS [b8 c.toNat])) ∧ Below w.heap.size w w' := by
  have := one_any (b8 c.toNat) w
  rw [bt_b8 (by omega), show ((c.toNat : Nat) : Int) = c from by omega] at this
  exact this
end Go.Proofs.Ytecmfdkhcffpmab
/- Contracts of the weaver of sources: a text that stands by itself; an item. -/
namespace Go.Proofs.Ytecmfdkhcffpmab
open Go.RowKit
set_option linter.unusedSimpArgs false
set_option linter.unusedVariables false
set_option maxHeartbeats 8000000
open Wd

theorem ret_strB {a b : List UInt8} (h : a = b) : Ending.returned (.string (Wd.mkS a)) = .returned (.string (Wd.mkS b)) := by rw [h]
theorem plain_any (k : Nat) (w : World) (hk : k < 23) :
    Calls Try.prog 47 #[.int .i64 k] w fun e w' => e = .returned (.string (Wd.mkS (plainT k))) ∧ Below w.heap.size w w' := by
  have A1 := hide (fun c W h0 h1 => one_int c W h0 h1)
  have HR := hide (Below.refl w.heap.size w)
  by_cases c1 : k < 6
  · have HE : Hid (plainT k = [43, b8 (97 + k)]) := hide (by simp [plainT, c1])
    go_enter Try.func47, Try.ntmps47
    go_wp2_with (first | (refine wpList_cat rfl 9 9 _ _ rfl _ _ rfl rfl ?_ ?_; (simp)) | (go_at_call 33; refine (A1.out _ _ (by omega) (by omega)).mono ?_; rintro e w1 ⟨rfl, hb1⟩; have HB1 := hide hb1; clear hb1))
    go_ret
    exact ⟨ret_strB (by rw [HE.out]), HB1.out⟩
  by_cases c2 : k < 12
  · have HE : Hid (plainT k = [45, b8 (97 + (k - 6))]) := hide (by simp [plainT, c1, c2])
    go_enter Try.func47, Try.ntmps47
    go_wp2_with (first | (refine wpList_cat rfl 9 9 _ _ rfl _ _ rfl rfl ?_ ?_; (simp)) | (go_at_call 33; refine (A1.out _ _ (by omega) (by omega)).mono ?_; rintro e w1 ⟨rfl, hb1⟩; have HB1 := hide hb1; clear hb1))
    go_ret
    exact ⟨ret_strB (by rw [HE.out, show 97 + k - 6 = 97 + (k - 6) from by omega]), HB1.out⟩
  by_cases c3 : k = 12
  · subst c3
    go_enter Try.func47, Try.ntmps47
    go_wp2
    go_ret
    exact ⟨rfl, HR.out⟩
  by_cases c4 : k = 13
  · subst c4
    go_enter Try.func47, Try.ntmps47
    go_wp2
    go_ret
    exact ⟨rfl, HR.out⟩
  by_cases c5 : k = 14
  · subst c5
    go_enter Try.func47, Try.ntmps47
    go_wp2
    go_ret
    exact ⟨rfl, HR.out⟩
  have d3 : ((k : Int) == 12) = false := by simp; omega
  have d4 : ((k : Int) == 13) = false := by simp; omega
  have d5 : ((k : Int) == 14) = false := by simp; omega
  by_cases c6 : k < 19
  · have HE : Hid (plainT k = [114, b8 (48 + (k - 15))]) := hide (by simp [plainT, c1, c2, c3, c4, c5, c6])
    go_enter Try.func47, Try.ntmps47
    go_wp2_with (first | (refine wpList_cat rfl 9 9 _ _ rfl _ _ rfl rfl ?_ ?_; (simp)) | (go_at_call 33; refine (A1.out _ _ (by omega) (by omega)).mono ?_; rintro e w1 ⟨rfl, hb1⟩; have HB1 := hide hb1; clear hb1))
    go_ret
    exact ⟨ret_strB (by rw [HE.out, show 48 + k - 15 = 48 + (k - 15) from by omega]), HB1.out⟩
  · have HE : Hid (plainT k = [119, b8 (48 + (k - 19))]) := hide (by simp [plainT, c1, c2, c3, c4, c5, c6])
    go_enter Try.func47, Try.ntmps47
    go_wp2_with (first | (refine wpList_cat rfl 9 9 _ _ rfl _ _ rfl rfl ?_ ?_; (simp)) | (go_at_call 33; refine (A1.out _ _ (by omega) (by omega)).mono ?_; rintro e w1 ⟨rfl, hb1⟩; have HB1 := hide hb1; clear hb1))
    go_ret
    exact ⟨ret_strB (by rw [HE.out, show 48 + k - 19 = 48 + (k - 19) from by omega]), HB1.out⟩
theorem item_any (h : Bool) (b : List UInt8) (w : World) (hb : b.length ≤ 10000) :
    Calls Try.prog 26 #[.bool h, .string (Wd.mkS b)] w fun e w' => e = .returned (.string (Wd.mkS (letterOf h :: 123 :: (b ++ [125])))) ∧ w' = w := by
  cases h
  · go_enter Try.func26, Try.ntmps26
    go_wp2_with (first | (refine wpList_cat rfl 9 9 _ _ rfl _ _ rfl rfl ?_ ?_; (simp; omega)))
    go_ret
    exact ⟨ret_strB rfl, rfl⟩
  · go_enter Try.func26, Try.ntmps26
    go_wp2_with (first | (refine wpList_cat rfl 9 9 _ _ rfl _ _ rfl rfl ?_ ?_; (simp; omega)))
    go_ret
    exact ⟨ret_strB rfl, rfl⟩
end Go.Proofs.Ytecmfdkhcffpmab
/- Contract of the weaver of sources: a token. -/
namespace Go.Proofs.Ytecmfdkhcffpmab
open Go.RowKit
set_option linter.unusedSimpArgs false
set_option linter.unusedVariables false
set_option maxHeartbeats 8000000
open Wd

def TokPost (w : World) (r : List UInt8 × List UInt8 × Bool) (e : Ending) (w' : World) : Prop :=
  e = .returned (.tuple #[.string (Wd.mkS r.1), .string (Wd.mkS r.2.1), .bool r.2.2]) ∧ Below w.heap.size w w'
theorem tok_plain (k : Nat) (o : List UInt8) (w : World) (hk : k < 23) (ho : o.length ≤ 1000) :
    Calls Try.prog 36 #[.int .i64 k, .string (Wd.mkS o)] w fun e w' => TokPost w (plainT k, o, true) e w' := by
  have A1 := hide (plain_any k w hk)
  generalize plainT k = t at *
  go_enter Try.func36, Try.ntmps36
  go_wp2_with (first | (go_at_call 47; refine (A1.out).mono ?_; rintro e w1 ⟨rfl, hb1⟩; have HB1 := hide hb1; clear hb1))
  go_ret3
  exact ⟨rfl, HB1.out⟩
theorem mkS_at (o : List UInt8) (j : Nat) (h2 : j < (Wd.mkS o).size) : (((((Wd.mkS o)[j]'h2).toNat : Nat)) : Int) = at_ o j := at_str (Wd.mkS o) j h2
theorem tok_ret {a : Value} {s t : ByteArray} {b : Value} (h : s = t) : Ending.returned (.tuple #[a, .string s, b]) = .returned (.tuple #[a, .string t, b]) := by rw [h]
theorem mkS_take (o : List UInt8) (n : Nat) : (Wd.mkS o).extract 0 n = Wd.mkS (o.take n) := by
  apply ByteArray.ext
  simp [Wd.mkS, ByteArray.data_extract]
theorem tok_open (k : Nat) (o : List UInt8) (w : World) (hk : ¬ k < 23) (hk2 : k < 25) (ho : o.length ≤ 1000) :
    Calls Try.prog 36 #[.int .i64 k, .string (Wd.mkS o)] w fun e w' => TokPost w ([40], o ++ [40], true) e w' := by
  have HR := hide (Below.refl w.heap.size w)
  have hsz := Wd.mkS_size o
  go_enter Try.func36, Try.ntmps36
  by_cases h0 : o.length = 0
  · obtain rfl := List.eq_nil_of_length_eq_zero h0
    go_wp2_with (first | (refine wpList_cat rfl 9 9 _ _ rfl _ _ rfl rfl ?_ ?_; (simp; try omega)))
    go_ret3
    exact ⟨rfl, HR.out⟩
  · go_wp2_with (first | (refine wpList_cat rfl 9 9 _ _ rfl _ _ rfl rfl ?_ ?_; (simp; try omega)))
    go_ret3
    exact ⟨rfl, HR.out⟩
theorem tok_star (k : Nat) (o : List UInt8) (w : World) (hk : ¬ k < 28) (hk2 : k < 30) (ho : o.length ≤ 1000) :
    Calls Try.prog 36 #[.int .i64 k, .string (Wd.mkS o)] w fun e w' => TokPost w ([91], o ++ [91], true) e w' := by
  have HR := hide (Below.refl w.heap.size w)
  have hsz := Wd.mkS_size o
  have d27 : ((k : Int) == 27) = false := by simp; omega
  go_enter Try.func36, Try.ntmps36
  by_cases h0 : o.length = 0
  · obtain rfl := List.eq_nil_of_length_eq_zero h0
    go_wp2_with (first | (refine wpList_cat rfl 9 9 _ _ rfl _ _ rfl rfl ?_ ?_; (simp; try omega)))
    go_ret3
    exact ⟨rfl, HR.out⟩
  · go_wp2_with (first | (refine wpList_cat rfl 9 9 _ _ rfl _ _ rfl rfl ?_ ?_; (simp; try omega)))
    go_ret3
    exact ⟨rfl, HR.out⟩
theorem tok_bar (k : Nat) (o : List UInt8) (w : World) (hk : ¬ k < 25) (hk2 : k < 27) (ho : o.length ≤ 1000) (h0 : 0 < o.length) (hc : at_ o (o.length - 1) = 40) :
    Calls Try.prog 36 #[.int .i64 k, .string (Wd.mkS o)] w fun e w' => TokPost w ([124], o.take (o.length - 1) ++ [124], true) e w' := by
  have HR := hide (Below.refl w.heap.size w)
  have hsz := Wd.mkS_size o
  have hix : (((((Wd.mkS o)[o.length - 1]'(by rw [hsz]; omega)).toNat : Nat)) : Int) = 40 := by rw [mkS_at, hc]
  go_enter Try.func36, Try.ntmps36
  go_wp2
  go_quiet (fail)
  go_wp2
  go_ret3
  exact ⟨tok_ret (by rw [mkS_take]; exact mkS_app _ [124]), below_drewN HR.out nq⟩
theorem tok_shut (k : Nat) (o : List UInt8) (w : World) (hk : k = 27) (ho : o.length ≤ 1000) (h0 : 0 < o.length) (hc : at_ o (o.length - 1) = 124) :
    Calls Try.prog 36 #[.int .i64 k, .string (Wd.mkS o)] w fun e w' => TokPost w ([41], o.take (o.length - 1), true) e w' := by
  have HR := hide (Below.refl w.heap.size w)
  have hsz := Wd.mkS_size o
  have hix : (((((Wd.mkS o)[o.length - 1]'(by rw [hsz]; omega)).toNat : Nat)) : Int) = 124 := by rw [mkS_at, hc]
  subst hk
  go_enter Try.func36, Try.ntmps36
  go_wp2
  go_quiet (fail)
  go_wp2
  go_ret3
  exact ⟨tok_ret (mkS_take _ _), below_drewN HR.out nq⟩
theorem tok_back (k : Nat) (o : List UInt8) (w : World) (hk : ¬ k < 30) (hk2 : k < 32) (ho : o.length ≤ 1000) (h0 : 0 < o.length) (hc : at_ o (o.length - 1) = 91) :
    Calls Try.prog 36 #[.int .i64 k, .string (Wd.mkS o)] w fun e w' => TokPost w ([93], o.take (o.length - 1), true) e w' := by
  have HR := hide (Below.refl w.heap.size w)
  have hsz := Wd.mkS_size o
  have hix : (((((Wd.mkS o)[o.length - 1]'(by rw [hsz]; omega)).toNat : Nat)) : Int) = 91 := by rw [mkS_at, hc]
  have d27 : ((k : Int) == 27) = false := by simp; omega
  go_enter Try.func36, Try.ntmps36
  go_wp2
  go_quiet (fail)
  go_wp2
  go_ret3
  exact ⟨tok_ret (mkS_take _ _), below_drewN HR.out nq⟩
theorem no_bar (k : Nat) (o : List UInt8) (w : World) (hk : ¬ k < 25) (hk2 : k < 27) (ho : o.length ≤ 1000) (hc : ¬ (0 < o.length ∧ at_ o (o.length - 1) = 40)) :
    Calls Try.prog 36 #[.int .i64 k, .string (Wd.mkS o)] w fun e w' => TokPost w ([], o, false) e w' := by
  have HR := hide (Below.refl w.heap.size w)
  have hsz := Wd.mkS_size o
  by_cases h0 : 0 < o.length
  · have hix : (((((Wd.mkS o)[o.length - 1]'(by rw [hsz]; omega)).toNat : Nat)) : Int) = at_ o (o.length - 1) := by rw [mkS_at]
    have hcc : (at_ o (o.length - 1) == 40) = false := by simp; exact fun e => hc ⟨h0, e⟩
    clear hc
    generalize at_ o (o.length - 1) = x at *
    go_enter Try.func36, Try.ntmps36
    go_wp2
    go_ret3
    exact ⟨rfl, HR.out⟩
  · obtain rfl : o = [] := List.eq_nil_of_length_eq_zero (by omega)
    clear hc
    go_enter Try.func36, Try.ntmps36
    go_wp2
    go_ret3
    exact ⟨rfl, HR.out⟩
theorem no_shut (k : Nat) (o : List UInt8) (w : World) (hk : k = 27) (ho : o.length ≤ 1000) (hc : ¬ (0 < o.length ∧ at_ o (o.length - 1) = 124)) :
    Calls Try.prog 36 #[.int .i64 k, .string (Wd.mkS o)] w fun e w' => TokPost w ([], o, false) e w' := by
  have HR := hide (Below.refl w.heap.size w)
  have hsz := Wd.mkS_size o
  subst hk
  by_cases h0 : 0 < o.length
  · have hix : (((((Wd.mkS o)[o.length - 1]'(by rw [hsz]; omega)).toNat : Nat)) : Int) = at_ o (o.length - 1) := by rw [mkS_at]
    have hcc : (at_ o (o.length - 1) == 124) = false := by simp; exact fun e => hc ⟨h0, e⟩
    clear hc
    generalize at_ o (o.length - 1) = x at *
    go_enter Try.func36, Try.ntmps36
    go_wp2
    go_ret3
    exact ⟨rfl, HR.out⟩
  · obtain rfl : o = [] := List.eq_nil_of_length_eq_zero (by omega)
    clear hc
    go_enter Try.func36, Try.ntmps36
    go_wp2
    go_ret3
    exact ⟨rfl, HR.out⟩
theorem no_back (k : Nat) (o : List UInt8) (w : World) (hk : ¬ k < 30) (hk2 : k < 32) (ho : o.length ≤ 1000) (hc : ¬ (0 < o.length ∧ at_ o (o.length - 1) = 91)) :
    Calls Try.prog 36 #[.int .i64 k, .string (Wd.mkS o)] w fun e w' => TokPost w ([], o, false) e w' := by
  have HR := hide (Below.refl w.heap.size w)
  have hsz := Wd.mkS_size o
  have d27 : ((k : Int) == 27) = false := by simp; omega
  by_cases h0 : 0 < o.length
  · have hix : (((((Wd.mkS o)[o.length - 1]'(by rw [hsz]; omega)).toNat : Nat)) : Int) = at_ o (o.length - 1) := by rw [mkS_at]
    have hcc : (at_ o (o.length - 1) == 91) = false := by simp; exact fun e => hc ⟨h0, e⟩
    clear hc
    generalize at_ o (o.length - 1) = x at *
    go_enter Try.func36, Try.ntmps36
    go_wp2
    go_ret3
    exact ⟨rfl, HR.out⟩
  · obtain rfl : o = [] := List.eq_nil_of_length_eq_zero (by omega)
    clear hc
    go_enter Try.func36, Try.ntmps36
    go_wp2
    go_ret3
    exact ⟨rfl, HR.out⟩
theorem token_any (k : Nat) (o : List UInt8) (w : World) (hk : k < 32) (ho : o.length ≤ 1000) :
    Calls Try.prog 36 #[.int .i64 k, .string (Wd.mkS o)] w fun e w' => TokPost w (tokT k o) e w' := by
  unfold tokT
  by_cases c1 : k < 23
  · rw [if_pos c1]; exact tok_plain k o w c1 ho
  rw [if_neg c1]
  by_cases c2 : k < 25
  · rw [if_pos c2]; exact tok_open k o w c1 c2 ho
  rw [if_neg c2]
  by_cases c3 : k < 27
  · rw [if_pos c3]
    unfold shut
    by_cases h : 0 < o.length ∧ at_ o (o.length - 1) = 40
    · rw [if_pos h]; exact tok_bar k o w c2 c3 ho h.1 h.2
    · rw [if_neg h]; exact no_bar k o w c2 c3 ho h
  rw [if_neg c3]
  by_cases c4 : k = 27
  · rw [if_pos c4]
    unfold shut
    by_cases h : 0 < o.length ∧ at_ o (o.length - 1) = 124
    · rw [if_pos h]; exact tok_shut k o w c4 ho h.1 h.2
    · rw [if_neg h]; exact no_shut k o w c4 ho h
  rw [if_neg c4]
  by_cases c5 : k < 30
  · rw [if_pos c5]; exact tok_star k o w (by omega) c5 ho
  rw [if_neg c5]
  unfold shut
  by_cases h : 0 < o.length ∧ at_ o (o.length - 1) = 91
  · rw [if_pos h]; exact tok_back k o w c5 hk ho h.1 h.2
  · rw [if_neg h]; exact no_back k o w c5 hk ho h
end Go.Proofs.Ytecmfdkhcffpmab
