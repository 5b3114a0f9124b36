/- SrcE, OwnK, SrcF. -/
import Derived.Test.YtecmfdkhcffpmaaB17
import Derived.Test.YtecmfdkhcffpmaaB02
import Derived.Deep.RegionWith
import Derived.Test.YtecmfdkhcffpmaaB14
import Derived.Deep.RegionHeld3
import Derived.Laws.MakeOwn
import Derived.Deep.AppendLies
import Derived.Deep.RegionLaw
import Derived.Laws.BytesArg
import Derived.Laws.IdiomStrings
import Derived.Maps.AppendAt
import Derived.Lib.AppendStr
/- Contract of the program's 'split': a source taken apart. -/
namespace Go.Proofs.Ytecmfdkhcffpmaa
open Go.RowKit
set_option linter.unusedSimpArgs false
set_option linter.unusedVariables false
set_option maxHeartbeats 800000

theorem Try.i55 : (Try.prog.info? 167).map (·.size) = some 41 := by kernel_rfl

theorem own_mono {w : World} {base base' : Nat} {e : TypeId} {size : Nat} {v : Value} {n : Nat} {xs : List Value} (h : w.ownsRow base e size v n xs) (hb : base' ≤ base) : w.ownsRow base' e size v n xs := by
  obtain ⟨h1, h2⟩ := h
  refine ⟨h1, ?_⟩
  rcases h2 with h2 | ⟨g, cap, cur, hv, hg, r⟩
  · exact .inl h2
  · exact .inr ⟨g, cap, cur, hv, by omega, r⟩

theorem wpList_runTo' {P : Program} {ops : Array Oper} {rest : List Oper} {o : Oper} {a : Act} {w : World} {Q : Exit → Act → World → Prop} (hg : o.guard = none)
    (v : Value) (w' : World) (hrun : (execOp a.eval o).run P w = .ok (.value v) w') (h : wpList P ops Q rest (a.put o.dst v) w') : wpList P ops Q (o :: rest) a w := by
  refine wpList_plain hg fun K hK => ?_
  unfold Oper.wp
  rw [hrun, Oper.upon_value]
  exact hK _ _ h

theorem run_alloc55 (ρ : Operand → Value) (d : Option Tmp) (ty : TypeId) (ps : String) (af : Array Edge) (g : Option (Nat × Bool)) (w : World) :
    (execOp ρ { dst := d, op := .alloc 167, type := ty, pos := ps, after := af, guard := g }).run Try.prog w = .ok (.value (.pointer (some ⟨w.heap.size, 0, none⟩))) (w.alloc (.cells (Wd.pgA (.slice none 0 0) (fun _ => Wd.fn0)) 167)) := by kernel_rfl
theorem run_build55 (ρ : Operand → Value) (d : Option Tmp) (ty : TypeId) (ps : String) (af : Array Edge) (g : Option (Nat × Bool)) (w : World) :
    (execOp ρ { dst := d, op := .build 167 #[], type := ty, pos := ps, after := af, guard := g }).run Try.prog w = .ok (.value (.agg (Wd.pgA (.slice none 0 0) (fun _ => Wd.fn0)))) w := by kernel_rfl
theorem wpList_alloc55 {ops : Array Oper} {rest : List Oper} {o : Oper} {a : Act} {w : World} {Q : Exit → Act → World → Prop} (hg : o.guard = none) (ho : o.op = .alloc 167)
    (h : wpList Try.prog ops Q rest (a.put o.dst (.pointer (some ⟨w.heap.size, 0, none⟩))) (w.alloc (.cells (Wd.pgA (.slice none 0 0) (fun _ => Wd.fn0)) 167))) : wpList Try.prog ops Q (o :: rest) a w := by
  obtain ⟨d, op, ty, ps, af, g⟩ := o
  simp only at ho hg
  subst ho
  exact wpList_runTo' hg _ _ (run_alloc55 _ _ _ _ _ _ _) h
theorem wpList_build55 {ops : Array Oper} {rest : List Oper} {o : Oper} {a : Act} {w : World} {Q : Exit → Act → World → Prop} (hg : o.guard = none) (ho : o.op = .build 167 #[])
    (h : wpList Try.prog ops Q rest (a.put o.dst (.agg (Wd.pgA (.slice none 0 0) (fun _ => Wd.fn0)))) w) : wpList Try.prog ops Q (o :: rest) a w := by
  obtain ⟨d, op, ty, ps, af, g⟩ := o
  simp only at ho hg
  subst ho
  exact wpList_runTo' hg _ _ (run_build55 _ _ _ _ _ _ _) h
theorem pgA_one (ao : Option Addr) (n c : Nat) (F : Nat → Wd.Fn) : (Wd.pgA (.slice ao n c) F).all (·.oneCell') = true := by
  simp [Wd.pgA, Value.oneCell']

theorem wrap_small (n : Int) (h0 : 0 ≤ n) (h1 : n < 1000000) : IntKind.i64.wrap n = n := by
  have e : n % (2 ^ IntKind.i64.bits : Int) = n := Int.emod_eq_of_lt h0 (by simp [IntKind.bits]; omega)
  simp only [IntKind.wrap, e]
  rw [if_neg]
  simp [IntKind.bits]; omega

theorem partOf_str (s : ByteArray) (b i : Nat) (hb : b < s.size) : Wd.partOf s.data.toList b i = ⟨((s[b].toNat : Nat) : Int), b, (s.extract (b + 2) i).data.toList⟩ := by
  rw [Wd.extract_str, Wd.at_str s b hb]; rfl

set_option maxRecDepth 100000 in
theorem split_any (s : ByteArray) (w : World) (hs : s.size ≤ 9000) :
    Calls Try.prog 107 #[.string s] w fun e w' => ∃ v, e = .returned (.agg (Wd.pgA v (Wd.split s.data.toList).F)) ∧ w'.ownsRow w.heap.size 200 3 v (Wd.split s.data.toList).ps.length (Wd.partsV (Wd.split s.data.toList).ps) ∧ Below w.heap.size w w' := by
  have HL := hide (Wd.len_str s)
  go_enter Try.func107, Try.ntmps107
  go_wp2_with (first | (refine wpList_alloc55 rfl rfl ?_) | (refine wpList_build55 rfl rfl ?_) | (refine wpList_store_row rfl 167 _ _ rfl _ _ rfl rfl 167 _ (heap_alloc_last _ _) Try.i55 rfl (pgA_one _ _ _ _) ?_))
  have s0 : (((w.alloc (.cells (Wd.pgA (.slice none 0 0) fun _ => Wd.fn0) 167)).alloc (.cells (Wd.pgA (.slice none 0 0) fun _ => Wd.fn0) 167)).setRow (w.heap.size + 1) (Wd.pgA (.slice none 0 0) fun _ => Wd.fn0)).heap[w.heap.size]? = some (.cells (Wd.pgA (.slice none 0 0) fun _ => Wd.fn0) 167 (0, 0)) := by
    rw [setRow_other _ _ _ _ (by omega)]; exact heap_alloc2_old _ _ _
  have s1 : Pg (((w.alloc (.cells (Wd.pgA (.slice none 0 0) fun _ => Wd.fn0) 167)).alloc (.cells (Wd.pgA (.slice none 0 0) fun _ => Wd.fn0) 167)).setRow (w.heap.size + 1) (Wd.pgA (.slice none 0 0) fun _ => Wd.fn0)) (w.heap.size + 1) [] (fun _ => Wd.fn0) :=
    ⟨.slice none 0 0, setRow_heap _ _ _ _ _ _ (heap_alloc2_new _ _ _), World.ownsRow_nil _ _ _ _⟩
  have s2 : Below w.heap.size w (((w.alloc (.cells (Wd.pgA (.slice none 0 0) fun _ => Wd.fn0) 167)).alloc (.cells (Wd.pgA (.slice none 0 0) fun _ => Wd.fn0) 167)).setRow (w.heap.size + 1) (Wd.pgA (.slice none 0 0) fun _ => Wd.fn0)) :=
    below_setRow (((Below.refl _ _).alloc (Nat.le_refl _) _).alloc (by simp) _) (by omega) _
  generalize ((w.alloc (.cells (Wd.pgA (.slice none 0 0) fun _ => Wd.fn0) 167)).alloc (.cells (Wd.pgA (.slice none 0 0) fun _ => Wd.fn0) 167)).setRow (w.heap.size + 1) (Wd.pgA (.slice none 0 0) fun _ => Wd.fn0) = W at *
  go_loopw [4, 5] (fun a b wr => ∃ k : Nat, k ≤ s.size ∧ b = .int .i64 k ∧ a = .int .i64 (((Wd.splitTo s.data.toList k).begin : Nat) : Int) ∧ wr.heap[w.heap.size]? = some (.cells (Wd.pgA (.slice none 0 0) fun _ => Wd.fn0) 167 (0, 0)) ∧ Pg wr (w.heap.size + 1) (Wd.splitTo s.data.toList k).ps (Wd.splitTo s.data.toList k).F ∧ Below w.heap.size w wr) (fun _ b _ => s.size - (intOf b).toNat)
  case atStart => exact ⟨0, Nat.zero_le _, rfl, rfl, s0, s1, s2⟩
  case round =>
    clear s0 s1 s2
    obtain ⟨k, hk, rfl, rfl, hA, hP, hbe⟩ := hrel
    have HA := hide hA
    have HP := hide hP
    have HB := hide hbe
    clear hA hP hbe
    by_cases hlt : k < s.size
    · have hbg := Wd.splitTo_begin s.data.toList k
      have hpl := Wd.splitTo_len s.data.toList k
      have HS := hide (show Wd.splitTo s.data.toList (k + 1) = Wd.splitStep s.data.toList (Wd.splitTo s.data.toList k) k from rfl)
      have HC := hide (Wd.at_str s k hlt)
      generalize Wd.splitTo s.data.toList k = sp at *
      obtain ⟨bg, ps, F⟩ := sp
      simp only at hbg hpl
      cases hc : (((s[k].toNat : Nat) : Int) == 125)
      · have HE : Hid (Wd.splitTo s.data.toList (k + 1) = ⟨bg, ps, F⟩) := by
          simp at hc
          apply hide; rw [HS.out, Wd.splitStep, if_neg]; rw [← HC.out]; exact fun h => hc h.1
        go_wp2_with fail
        go_roundw
        case rel => exact ⟨k + 1, by omega, by go_num, by rw [HE.out], HA.out, by rw [HE.out]; exact HP.out, HB.out⟩
        case measure => simp [intOf]; omega
      · by_cases hb2 : bg + 2 ≤ k
        · have HE : Hid (Wd.splitTo s.data.toList (k + 1) = ⟨k + 1, ps ++ [Wd.partOf s.data.toList bg k], Wd.addF F (Wd.partOf s.data.toList bg k)⟩) := by
            simp at hc
            apply hide; rw [HS.out, Wd.splitStep, if_pos]; rw [← HC.out]; exact ⟨by omega, hb2⟩
          have b0 := Wd.at_lo s.data.toList bg
          have b1 := Wd.at_hi s.data.toList bg
          have hbs : bg < s.size := by omega
          rw [← Wd.at_str s bg hbs] at b0 b1
          have HPO := hide (partOf_str s bg k hbs)
          have hbi : (0 : Int) ≤ (bg : Int) := by omega
          have hbj : (bg : Int) < (s.size : Int) := by omega
          have hbk : (bg : Int) + 2 ≤ (k : Int) := by omega
          have hbl : (k : Int) ≤ (s.size : Int) := by omega
          go_wp2_with fail
          have hwr := wrap_small ((bg : Int) + 2) (by omega) (by omega)
          have h02 : (0 : Int) ≤ (bg : Int) + 2 := by omega
          go_region_held3 (fun _ => True) (trivial) (first | (go_at_call 134; refine (add_any _ _ _ _ _ _ _ b0 b1 (by omega) (Pg.draw HP.out)).mono ?_; rintro e w' ⟨rfl, hpg, hb⟩))
          go_wp2
          refine ⟨⟨k + 1, by omega, by go_num, by rw [HE.out]; go_num, ?_, by rw [HE.out, HPO.out]; exact hpg, HB.out.drew.trans (hb.mono (by omega))⟩, by simp [intOf]; omega⟩
          rw [hb.block w.heap.size (by omega)]; exact HA.out
        · have HE : Hid (Wd.splitTo s.data.toList (k + 1) = ⟨bg, ps, F⟩) := by
            apply hide; rw [HS.out, Wd.splitStep, if_neg]; exact fun h => hb2 h.2
          go_wp2_with fail
          go_roundw
          case rel => exact ⟨k + 1, by omega, by go_num, by rw [HE.out], HA.out, by rw [HE.out]; exact HP.out, HB.out⟩
          case measure => simp [intOf]; omega
    · obtain rfl : k = s.size := by omega
      obtain ⟨v, hh, hown⟩ := HP.out
      obtain ⟨ao, cap, hv⟩ : ∃ ao cap, v = .slice ao (Wd.splitTo s.data.toList s.size).ps.length cap := by
        rcases hown.2 with ⟨h1, h2⟩ | ⟨g, cap, cur, h1, _⟩
        · exact ⟨none, 0, by rw [h1, h2]⟩
        · exact ⟨_, _, h1⟩
      have hsp : Wd.split s.data.toList = Wd.splitTo s.data.toList s.size := by rw [Wd.split, HL.out]
      have HSP := hide hsp
      have HH := hide hh
      have HO := hide hown
      have HV := hide hv
      clear hh hown hsp hv
      go_wp2_with (first | (refine wpList_load_row rfl 167 _ rfl _ rfl 167 _ (0, 0) _ HH.out Try.underlying167 rfl Try.i55 ?_) | (refine wpList_store_row rfl 167 _ _ rfl _ _ rfl rfl 167 _ HA.out Try.i55 rfl (by rw [HV.out]; exact pgA_one _ _ _ _) ?_))
      refine bodyPost_ret (v := .agg (Wd.pgA v (Wd.split s.data.toList).F)) (results_cell_row Try.results107 _ _ w.heap.size 167 _ (0, 0) _ rfl (by rw [HSP.out]; exact setRow_heap _ _ _ _ _ _ HA.out) Try.underlying167 rfl Try.i55) rfl ⟨v, rfl, ?_, below_setRow HB.out (Nat.le_refl _) _⟩
      rw [HSP.out]
      obtain ⟨r1, r2⟩ := HO.out
      refine ⟨r1, ?_⟩
      rcases r2 with r2 | ⟨g, cap, cur, hv, hg, hh, r⟩
      · exact .inl r2
      · exact .inr ⟨g, cap, cur, hv, by omega, by rw [setRow_other _ _ _ _ (by omega)]; exact hh, r⟩
end Go.Proofs.Ytecmfdkhcffpmaa
/- Own slices and rows that were made, for what follows. -/
namespace Go.Proofs.Ytecmfdkhcffpmaa
open Go.RowKit
set_option linter.unusedSimpArgs false
set_option linter.unusedVariables false
set_option maxHeartbeats 8000000
open Mc
theorem Try.infoInt : (Try.prog.info? 3).map (fun i => (i.zero, i.size, i.bytes)) = some (some (.int .i64 0), 1, 8) := by kernel_rfl
theorem Try.infoBool : (Try.prog.info? 4).map (fun i => (i.zero, i.size, i.bytes)) = some (some (.bool false), 1, 1) := by kernel_rfl
theorem mk_ints (w : World) (n : Nat) (hn : n ≤ 1000) : (Instr.makeSlice 64 (.int .i64 n) (.int .i64 n)).run Try.prog w = .ok (.slice (some ⟨w.heap.size, 0, none⟩) n n) (w.alloc (.cells (madeCells #[.int .i64 0] n) 3)) := by
  obtain ⟨i, h1, h2, h3, h4⟩ := info_parts Try.infoInt
  have := run_make w 64 3 i _ Try.underlying64 h1 h2 .i64 .i64 n n (by omega) (by omega) (by rw [h4]; omega) (by omega)
  rw [this, h3]; simp [Value.cells]
theorem madeCells_at (z : Array Value) (m i : Nat) (h : i < m) : (madeCells z m)[i]? = some (z[i % z.size]!) := by simp [madeCells, h]
theorem own_same {w w' : World} {base : Nat} {e : TypeId} {size : Nat} {v : Value} {n : Nat} {xs : List Value} (h : w.ownsRow base e size v n xs) (hb : ∀ g, base ≤ g → g < w.heap.size → w'.heap[g]? = w.heap[g]?) : w'.ownsRow base e size v n xs := by
  obtain ⟨a1, a2⟩ := h
  refine ⟨a1, ?_⟩
  rcases a2 with a2 | ⟨g', cap, cur, hv', hg, hh, r⟩
  · exact .inl a2
  · exact .inr ⟨g', cap, cur, hv', hg, by rw [hb g' hg (row_lt hh)]; exact hh, r⟩
theorem newsL (w : World) (vs : List Value) (t : TypeId) : ∀ j u, vs[j]? = some u → (w.alloc (.cells vs.toArray t)).cell? ((⟨w.heap.size, 0, none⟩ : Addr).add j) = some u := World.news_of_block (cs := vs.toArray) (heap_alloc_last _ _)
theorem grown_oth {w3 w5 : World} {o : Obj} {q : Option Nat} (hg : (w3.alloc o).grownBy w5 q) : ∀ j, j < w3.heap.size → q ≠ some j → w5.heap[j]? = w3.heap[j]? := fun j hj hne => by
  rw [hg.block j (by simp; omega) (fun e => hne e.symm), heap_alloc_old _ _ hj]
theorem Blk.alloc3 {w w' : World} {g n : Nat} {f : Nat → Value} (h : Blk w g n f) (hb : Below w.heap.size w w') : Blk w' g n f := h.below hb
theorem own_v {w : World} {base : Nat} {e : TypeId} {size : Nat} {v : Value} {n : Nat} {xs : List Value} (h : w.ownsRow base e size v n xs) : ∃ ao c, v = .slice ao n c := by
  rcases h.2 with ⟨rfl, h0⟩ | ⟨g, cap, cur, rfl, _⟩
  · exact ⟨none, 0, by rw [h0]⟩
  · exact ⟨_, _, rfl⟩
end Go.Proofs.Ytecmfdkhcffpmaa
/- Contracts of the program's 'unknownName', 'allDone', 'unfold'. -/
namespace Go.Proofs.Ytecmfdkhcffpmaa
open Go.RowKit
set_option linter.unusedSimpArgs false
set_option linter.unusedVariables false
set_option maxHeartbeats 800000

theorem unknownName_any (s : ByteArray) (F : Nat → Wd.Fn) (v : Value) (b : Nat) (w : World) (hs : s.size ≤ 10000) (hb : w.heap[b]? = some (.cells (Wd.pgA v F) 167 (0, 0))) :
    Calls Try.prog 136 #[.pointer (some ⟨b, 0, none⟩), .string s] w fun e w' => e = .returned (.int .i64 (Wd.toInt (Wd.unknown F s.data.toList))) ∧ w' = w := by
  have HL := hide (Wd.len_str s)
  have HH := hide hb
  clear hb
  go_enter Try.func136, Try.ntmps136
  go_wp2
  go_loop [5] (fun i => ∃ k : Nat, k ≤ s.size ∧ i = .int .i64 k ∧ (∀ j, j < k → Wd.unkP F s.data.toList j = false)) (fun i => s.size - (intOf i).toNat)
  case atStart => exact ⟨0, Nat.zero_le _, rfl, fun j hj => by omega⟩
  case round =>
    obtain ⟨k, hk, rfl, hno⟩ := hrel
    have HN := hide hno
    clear hno
    by_cases hlt : k < s.size
    · have HP := hide (Wd.unkP_str F s k hlt)
      have b0 := Wd.at_lo s.data.toList k
      have b1 := Wd.at_hi s.data.toList k
      rw [← Wd.at_str s k hlt] at b0 b1
      cases hu : Wd.up ((s[k].toNat : Nat) : Int)
      · go_wp2_with (go_at_call 135; refine (isFunction_any _ _ b0 b1).mono ?_; rw [hu]; rintro e w' ⟨rfl, rfl⟩)
        go_round
        case rel => exact ⟨k + 1, by omega, by go_num, fun j hj => by
          by_cases e : j = k
          · subst e; rw [HP.out, hu]; rfl
          · exact HN.out j (by omega)⟩
        case measure => simp [intOf]; omega
      · have hu' := hu
        simp [Wd.up] at hu'
        have c0 : w.cell? ⟨b, 1 + (s[k].toNat - 65) * 5, none⟩ = some (.bool (F (s[k].toNat - 65)).there) := row_cell HH.out (Wd.pgA_at _ F _ 0 (by omega) _ rfl)
        cases ht : (F (s[k].toNat - 65)).there
        · rw [ht] at c0
          go_wp2_with (go_at_call 135; refine (isFunction_any _ _ b0 b1).mono ?_; rw [hu]; rintro e w' ⟨rfl, rfl⟩)
          go_ret
          refine ⟨ret_int ?_, rfl⟩
          rw [Wd.unknown, HL.out, Wd.first_yes hlt (by rw [HP.out, hu, ht]; rfl) HN.out]; rfl
        · rw [ht] at c0
          go_wp2_with (go_at_call 135; refine (isFunction_any _ _ b0 b1).mono ?_; rw [hu]; rintro e w' ⟨rfl, rfl⟩)
          go_round
          case rel => exact ⟨k + 1, by omega, by go_num, fun j hj => by
            by_cases e : j = k
            · subst e; rw [HP.out, hu, ht]; rfl
            · exact HN.out j (by omega)⟩
          case measure => simp [intOf]; omega
    · go_wp2
      go_ret
      refine ⟨ret_int ?_, rfl⟩
      rw [Wd.unknown, HL.out, Wd.first_no (fun j hj => HN.out j (by omega))]; rfl

theorem allDone_any (s : ByteArray) (F : Nat → Wd.Fn) (v : Value) (b : Nat) (w : World) (hs : s.size ≤ 10000) (hb : w.heap[b]? = some (.cells (Wd.pgA v F) 167 (0, 0))) :
    Calls Try.prog 159 #[.pointer (some ⟨b, 0, none⟩), .string s] w fun e w' => e = .returned (.bool (Wd.allDone F s.data.toList)) ∧ w' = w := by
  have HL := hide (Wd.len_str s)
  have HH := hide hb
  clear hb
  go_enter Try.func159, Try.ntmps159
  go_wp2
  go_loop [5] (fun i => ∃ k : Nat, k ≤ s.size ∧ i = .int .i64 k ∧ (∀ j, j < k → Wd.undoneP F s.data.toList j = false)) (fun i => s.size - (intOf i).toNat)
  case atStart => exact ⟨0, Nat.zero_le _, rfl, fun j hj => by omega⟩
  case round =>
    obtain ⟨k, hk, rfl, hno⟩ := hrel
    have HN := hide hno
    clear hno
    by_cases hlt : k < s.size
    · have HP := hide (Wd.undoneP_str F s k hlt)
      have b0 := Wd.at_lo s.data.toList k
      have b1 := Wd.at_hi s.data.toList k
      rw [← Wd.at_str s k hlt] at b0 b1
      cases hu : Wd.up ((s[k].toNat : Nat) : Int)
      · go_wp2_with (go_at_call 135; refine (isFunction_any _ _ b0 b1).mono ?_; rw [hu]; rintro e w' ⟨rfl, rfl⟩)
        go_round
        case rel => exact ⟨k + 1, by omega, by go_num, fun j hj => by
          by_cases e : j = k
          · subst e; rw [HP.out, hu]; rfl
          · exact HN.out j (by omega)⟩
        case measure => simp [intOf]; omega
      · have hu' := hu
        simp [Wd.up] at hu'
        have c0 : w.cell? ⟨b, 1 + (s[k].toNat - 65) * 5 + 2, none⟩ = some (.bool (F (s[k].toNat - 65)).done) := row_cell HH.out (Wd.pgA_at _ F _ 2 (by omega) _ rfl)
        cases ht : (F (s[k].toNat - 65)).done
        · rw [ht] at c0
          go_wp2_with (go_at_call 135; refine (isFunction_any _ _ b0 b1).mono ?_; rw [hu]; rintro e w' ⟨rfl, rfl⟩)
          go_ret
          exact ⟨by rw [Wd.allDone, HL.out, Wd.first_yes hlt (by rw [HP.out, hu, ht]; rfl) HN.out]; rfl, rfl⟩
        · rw [ht] at c0
          go_wp2_with (go_at_call 135; refine (isFunction_any _ _ b0 b1).mono ?_; rw [hu]; rintro e w' ⟨rfl, rfl⟩)
          go_round
          case rel => exact ⟨k + 1, by omega, by go_num, fun j hj => by
            by_cases e : j = k
            · subst e; rw [HP.out, hu, ht]; rfl
            · exact HN.out j (by omega)⟩
          case measure => simp [intOf]; omega
    · go_wp2
      go_ret
      exact ⟨by rw [Wd.allDone, HL.out, Wd.first_no (fun j hj => HN.out j (by omega))]; rfl, rfl⟩

/-- What 'unfold' leaves: the text and yes, or nothing and no; nothing old has turned. -/
def UnfPost (w : World) (r : Option (List UInt8)) (e : Ending) (w' : World) : Prop :=
  Below w.heap.size w w' ∧ (match r with | some t => e = .returned (.tuple #[.string (Wd.mkS t), .bool true]) | none => e = .returned (.tuple #[.string ⟨#[]⟩, .bool false]))

theorem own_some {w : World} {base : Nat} {e : TypeId} {size : Nat} {v : Value} {n : Nat} {xs : List Value} (h : w.ownsRow base e size v n xs) (hv : v ≠ .slice none 0 0) : ∃ g cap, v = .slice (some ⟨g, 0, none⟩) n cap := by
  rcases h.2 with ⟨h1, _⟩ | ⟨g, cap, cur, h1, _⟩
  · exact absurd h1 hv
  · exact ⟨g, cap, h1⟩
theorem own_bytes {w : World} {base : Nat} {g cap : Nat} {l : List UInt8} (h : w.ownsRow base 5 1 (.slice (some ⟨g, 0, none⟩) l.length cap) l.length (Wd.bytesV l)) :
    ∀ j (hj : j < l.length), w.cell? ((⟨g, 0, none⟩ : Addr).add j) = some (.int .u8 ((l[j].toNat : Nat) : Int)) := by
  intro j hj
  have := h.cells (g := g) rfl j (.int .u8 ((l[j].toNat : Nat) : Int)) (by simp [Wd.bytesV, Wd.bt, hj])
  exact this
theorem bytesV_app (a b : List UInt8) : Wd.bytesV (a ++ b) = Wd.bytesV a ++ Wd.bytesV b := by simp [Wd.bytesV]
theorem strCells_mkS (l : List UInt8) : Lib.strCells (Wd.mkS l) = Wd.bytesV l := rfl

set_option maxRecDepth 100000 in
set_option maxHeartbeats 1600000 in
theorem unfold_any (s : ByteArray) (F : Nat → Wd.Fn) (v : Value) (b : Nat) (w : World) (hs : s.size ≤ 10000) (hF : ∀ j, (F j).text.length ≤ 300) (hb : w.heap[b]? = some (.cells (Wd.pgA v F) 167 (0, 0))) :
    Calls Try.prog 138 #[.pointer (some ⟨b, 0, none⟩), .string s] w (UnfPost w (Wd.unfold F s.data.toList)) := by
  have HH := hide hb
  have HF := hide hF
  clear hb hF
  obtain ⟨i0, hi, hz0, hz1, hz2⟩ := info_parts Try.info5
  have hr0 : Hid (Wd.unfold F s.data.toList = Wd.unf F (s.data.toList.drop 0) []) := rfl
  generalize hr : Wd.unfold F s.data.toList = r at *
  clear hr
  go_enter Try.func138, Try.ntmps138
  go_wp2
  have s0 : (w.alloc (.cells #[] 5)).ownsRow w.heap.size 5 1 (.slice (some ⟨w.heap.size, 0, none⟩) 0 0) 0 [] := World.ownsRow_made w #[] 0 (Nat.le_refl _) (by unfold maxLen; omega) rfl
  have s1 : Below w.heap.size w (w.alloc (.cells #[] 5)) := (Below.refl _ _).alloc (Nat.le_refl _) _
  generalize w.alloc (.cells #[] 5) = W at *
  go_loopw [6, 7] (fun a b wr => ∃ (k : Nat) (acc : List UInt8) (g cap : Nat), k ≤ s.size ∧ b = .int .i64 k ∧ acc.length ≤ 300 ∧ a = .slice (some ⟨g, 0, none⟩) acc.length cap ∧ wr.ownsRow w.heap.size 5 1 (.slice (some ⟨g, 0, none⟩) acc.length cap) acc.length (Wd.bytesV acc) ∧ r = Wd.unf F (s.data.toList.drop k) acc ∧ Below w.heap.size w wr) (fun _ b _ => s.size - (intOf b).toNat)
  case atStart => exact ⟨0, [], w.heap.size, 0, Nat.zero_le _, rfl, by simp, rfl, s0, hr0.out, s1⟩
  case round =>
    clear s0 s1 hr0
    obtain ⟨k, acc, g, cap, hk, rfl, hal, rfl, hown, hr, hbe⟩ := hrel
    have HO := hide hown
    have HR := hide hr
    have HB := hide hbe
    clear hown hr hbe
    by_cases hlt : k < s.size
    · have HS := hide (Wd.unf_step F s k acc hlt)
      have b0 := Wd.at_lo s.data.toList k
      have b1 := Wd.at_hi s.data.toList k
      rw [← Wd.at_str s k hlt] at b0 b1
      cases hu : Wd.up ((s[k].toNat : Nat) : Int)
      · have HE : Hid (r = if 300 < (acc ++ [s[k]]).length then none else Wd.unf F (s.data.toList.drop (k + 1)) (acc ++ [s[k]])) := by
          apply hide; rw [HR.out, HS.out, hu]; rfl
        by_cases hg : 300 < acc.length + 1
        · have HE2 : Hid (r = none) := by apply hide; rw [HE.out, if_pos (by simp; omega)]
          go_wp2_with (first | (go_at_call 135; refine (isFunction_any _ _ b0 b1).mono ?_; rw [hu]; rintro e w' ⟨rfl, rfl⟩) | (at_builtin; refine wpList_append_own _ rfl _ _ 83 rfl w.heap.size 5 i0 (.int .u8 0) 1 1 Try.underlying83 hi hz0 hz1 hz2 rfl (by decide) _ _ _ rfl (HO.out.alloc _) ⟨_, 0, none⟩ 1 1 [.int .u8 ((s[k].toNat : Nat) : Int)] rfl rfl (cell_one_new _ _ _) (fun x hx => by simp at hx; subst hx; rfl) (by unfold maxLen; omega) (by omega) (by have := HB.out.size; simp; omega) ?_; intro v' w3 hown' hgrow3 hnil3; obtain ⟨g', cap', rfl⟩ := own_some hown' (fun e => by have h9 := (hnil3.1 e).1; cases h9); have HG := hide hgrow3; have HW := hide hown'; clear hgrow3 hown' hnil3))
          go_ret2
          rw [HE2.out]
          exact ⟨((HB.out.alloc HB.out.size _).grown HG.out (by have := HB.out.size; simp; omega) (fun q hq => (HO.out.lt q hq).1)), rfl⟩
        · have HE2 : Hid (r = Wd.unf F (s.data.toList.drop (k + 1)) (acc ++ [s[k]])) := by apply hide; rw [HE.out, if_neg (by simp; omega)]
          go_wp2_with (first | (go_at_call 135; refine (isFunction_any _ _ b0 b1).mono ?_; rw [hu]; rintro e w' ⟨rfl, rfl⟩) | (at_builtin; refine wpList_append_own _ rfl _ _ 83 rfl w.heap.size 5 i0 (.int .u8 0) 1 1 Try.underlying83 hi hz0 hz1 hz2 rfl (by decide) _ _ _ rfl (HO.out.alloc _) ⟨_, 0, none⟩ 1 1 [.int .u8 ((s[k].toNat : Nat) : Int)] rfl rfl (cell_one_new _ _ _) (fun x hx => by simp at hx; subst hx; rfl) (by unfold maxLen; omega) (by omega) (by have := HB.out.size; simp; omega) ?_; intro v' w3 hown' hgrow3 hnil3; obtain ⟨g', cap', rfl⟩ := own_some hown' (fun e => by have h9 := (hnil3.1 e).1; cases h9); have HG := hide hgrow3; have HW := hide hown'; clear hgrow3 hown' hnil3))
          refine ⟨⟨k + 1, acc ++ [s[k]], g', cap', by omega, by go_num, by simp; omega, by simp, ?_, HE2.out, ((HB.out.alloc HB.out.size _).grown HG.out (by have := HB.out.size; simp; omega) (fun q hq => (HO.out.lt q hq).1))⟩, by simp [intOf]; omega⟩
          rw [bytesV_app]
          have := HW.out
          simpa [Wd.bytesV, Wd.bt] using this
      · have hu' := hu
        simp [Wd.up] at hu'
        have HBl := hide (below_row HB.out HH.out)
        have r0 : wr.cell? ⟨b, 1 + (s[k].toNat - 65) * 5, none⟩ = some (.bool (F (s[k].toNat - 65)).there) := row_cell HBl.out (Wd.pgA_at _ F _ 0 (by omega) _ rfl)
        have r1 : wr.cell? ⟨b, 1 + (s[k].toNat - 65) * 5 + 1, none⟩ = some (.string (Wd.mkS (F (s[k].toNat - 65)).body)) := row_cell HBl.out (Wd.pgA_at _ F _ 1 (by omega) _ rfl)
        have r2 : wr.cell? ⟨b, 1 + (s[k].toNat - 65) * 5 + 2, none⟩ = some (.bool (F (s[k].toNat - 65)).done) := row_cell HBl.out (Wd.pgA_at _ F _ 2 (by omega) _ rfl)
        have r3 : wr.cell? ⟨b, 1 + (s[k].toNat - 65) * 5 + 3, none⟩ = some (.bool (F (s[k].toNat - 65)).fits) := row_cell HBl.out (Wd.pgA_at _ F _ 3 (by omega) _ rfl)
        have r4 : wr.cell? ⟨b, 1 + (s[k].toNat - 65) * 5 + 4, none⟩ = some (.string (Wd.mkS (F (s[k].toNat - 65)).text)) := row_cell HBl.out (Wd.pgA_at _ F _ 4 (by omega) _ rfl)
        have htl := HF.out (s[k].toNat - 65)
        have HE : Hid (r = if (F (s[k].toNat - 65)).fits = true then (if 300 < (acc ++ (F (s[k].toNat - 65)).text).length then none else Wd.unf F (s.data.toList.drop (k + 1)) (acc ++ (F (s[k].toNat - 65)).text)) else none) := by
          apply hide; rw [HR.out, HS.out, hu]; rfl
        generalize F (s[k].toNat - 65) = f at *
        obtain ⟨fth, fbd, fdn, fft, ftx⟩ := f
        simp only at r0 r1 r2 r3 r4 htl HE
        have htx : (Wd.mkS ftx).size = ftx.length := Wd.mkS_size ftx
        have hsc : Hid (Lib.strCells (Wd.mkS ftx) = Wd.bytesV ftx) := rfl
        generalize Wd.mkS ftx = tx at *
        generalize Wd.mkS fbd = bd at *
        have hts : tx.size ≤ 300 := by omega
        have HTX := hide htx
        clear htx
        cases fft
        · have HE2 : Hid (r = none) := by apply hide; rw [HE.out]; rfl
          go_wp2_with (go_at_call 135; refine (isFunction_any _ _ b0 b1).mono ?_; rw [hu]; rintro e w' ⟨rfl, rfl⟩)
          go_ret2
          rw [HE2.out]
          exact ⟨HB.out.alloc HB.out.size _, rfl⟩
        · by_cases hg : 300 < acc.length + tx.size
          · have HE2 : Hid (r = none) := by
              have := HTX.out
              apply hide; rw [HE.out, if_pos rfl, if_pos (by simp; omega)]
            go_wp2_with (first | (go_at_call 135; refine (isFunction_any _ _ b0 b1).mono ?_; rw [hu]; rintro e w' ⟨rfl, rfl⟩) | (at_builtin; refine Lib.wpList_append_own_string _ rfl _ _ 83 9 rfl w.heap.size 5 i0 Try.underlying83 Try.underlying9 hi hz0 hz1 hz2 _ _ _ rfl (HO.out.alloc _) tx rfl (by unfold maxLen; omega) (by omega) (by have := HB.out.size; simp; omega) ?_; intro v' w3 hown' hgrow3 hnil3; obtain ⟨g', cap', rfl⟩ := own_some hown' (fun e => by have h9 := (hnil3.1 e).1; cases h9); have HG := hide hgrow3; have HW := hide hown'; clear hgrow3 hown' hnil3))
            go_ret2
            rw [HE2.out]
            exact ⟨(((HB.out.alloc HB.out.size _)).grown HG.out (by have := HB.out.size; simp; omega) (fun q hq => (HO.out.lt q hq).1)), rfl⟩
          · have HE2 : Hid (r = Wd.unf F (s.data.toList.drop (k + 1)) (acc ++ ftx)) := by
              have := HTX.out
              apply hide; rw [HE.out, if_pos rfl, if_neg (by simp; omega)]
            go_wp2_with (first | (go_at_call 135; refine (isFunction_any _ _ b0 b1).mono ?_; rw [hu]; rintro e w' ⟨rfl, rfl⟩) | (at_builtin; refine Lib.wpList_append_own_string _ rfl _ _ 83 9 rfl w.heap.size 5 i0 Try.underlying83 Try.underlying9 hi hz0 hz1 hz2 _ _ _ rfl (HO.out.alloc _) tx rfl (by unfold maxLen; omega) (by omega) (by have := HB.out.size; simp; omega) ?_; intro v' w3 hown' hgrow3 hnil3; obtain ⟨g', cap', rfl⟩ := own_some hown' (fun e => by have h9 := (hnil3.1 e).1; cases h9); have HG := hide hgrow3; have HW := hide hown'; clear hgrow3 hown' hnil3))
            have htx := HTX.out
            refine ⟨⟨k + 1, acc ++ ftx, g', cap', by omega, by go_num, by simp; omega, by simp [htx], ?_, HE2.out, (((HB.out.alloc HB.out.size _)).grown HG.out (by have := HB.out.size; simp; omega) (fun q hq => (HO.out.lt q hq).1))⟩, by simp [intOf]; omega⟩
            rw [bytesV_app, List.length_append, ← htx, ← hsc.out]
            exact HW.out
    · have hcv := run_convert_bytes_back (P := Try.prog) wr 83 9 5 ⟨g, 0, none⟩ cap acc Try.underlying83 Try.underlying5 Try.underlying9 (own_bytes HO.out)
      go_wp2
      go_ret2
      rw [HR.out, Wd.unf_end F s k acc (by omega)]
      exact ⟨HB.out, rfl⟩
end Go.Proofs.Ytecmfdkhcffpmaa
