/- SrcE, OwnK. -/
import Derived.Test.YtecmfdkhcffpmaaB17
import Derived.Test.YtecmfdkhcffpmaaB02
import Derived.Deep.RegionWith
import Derived.Test.YtecmfdkhcffpmaaB14
import Derived.Deep.RegionHeld3
import Derived.Laws.MakeOwn
import Derived.Deep.AppendLies
import Derived.Deep.RegionLaw
import Derived.Laws.BytesArg
import Derived.Laws.IdiomStrings
import Derived.Maps.AppendAt
/- Contract of the program's 'split': a source taken apart. -/
namespace Go.Proofs.Ytecmfdkhcffpmaa
open Go.RowKit
set_option linter.unusedSimpArgs false
set_option linter.unusedVariables false
set_option maxHeartbeats 800000

theorem Try.i55 : (Try.prog.info? 167).map (·.size) = some 41 := by kernel_rfl

theorem own_mono {w : World} {base base' : Nat} {e : TypeId} {size : Nat} {v : Value} {n : Nat} {xs : List Value} (h : w.ownsRow base e size v n xs) (hb : base' ≤ base) : w.ownsRow base' e size v n xs := by
  obtain ⟨h1, h2⟩ := h
  refine ⟨h1, ?_⟩
  rcases h2 with h2 | ⟨g, cap, cur, hv, hg, r⟩
  · exact .inl h2
  · exact .inr ⟨g, cap, cur, hv, by omega, r⟩

theorem wpList_runTo' {P : Program} {ops : Array Oper} {rest : List Oper} {o : Oper} {a : Act} {w : World} {Q : Exit → Act → World → Prop} (hg : o.guard = none)
    (v : Value) (w' : World) (hrun : (execOp a.eval o).run P w = .ok (.value v) w') (h : wpList P ops Q rest (a.put o.dst v) w') : wpList P ops Q (o :: rest) a w := by
  refine wpList_plain hg fun K hK => ?_
  unfold Oper.wp
  rw [hrun, Oper.upon_value]
  exact hK _ _ h

theorem run_alloc55 (ρ : Operand → Value) (d : Option Tmp) (ty : TypeId) (ps : String) (af : Array Edge) (g : Option (Nat × Bool)) (w : World) :
    (execOp ρ { dst := d, op := .alloc 167, type := ty, pos := ps, after := af, guard := g }).run Try.prog w = .ok (.value (.pointer (some ⟨w.heap.size, 0, none⟩))) (w.alloc (.cells (Wd.pgA (.slice none 0 0) (fun _ => Wd.fn0)) 167)) := by kernel_rfl
theorem run_build55 (ρ : Operand → Value) (d : Option Tmp) (ty : TypeId) (ps : String) (af : Array Edge) (g : Option (Nat × Bool)) (w : World) :
    (execOp ρ { dst := d, op := .build 167 #[], type := ty, pos := ps, after := af, guard := g }).run Try.prog w = .ok (.value (.agg (Wd.pgA (.slice none 0 0) (fun _ => Wd.fn0)))) w := by kernel_rfl
theorem wpList_alloc55 {ops : Array Oper} {rest : List Oper} {o : Oper} {a : Act} {w : World} {Q : Exit → Act → World → Prop} (hg : o.guard = none) (ho : o.op = .alloc 167)
    (h : wpList Try.prog ops Q rest (a.put o.dst (.pointer (some ⟨w.heap.size, 0, none⟩))) (w.alloc (.cells (Wd.pgA (.slice none 0 0) (fun _ => Wd.fn0)) 167))) : wpList Try.prog ops Q (o :: rest) a w := by
  obtain ⟨d, op, ty, ps, af, g⟩ := o
  simp only at ho hg
  subst ho
  exact wpList_runTo' hg _ _ (run_alloc55 _ _ _ _ _ _ _) h
theorem wpList_build55 {ops : Array Oper} {rest : List Oper} {o : Oper} {a : Act} {w : World} {Q : Exit → Act → World → Prop} (hg : o.guard = none) (ho : o.op = .build 167 #[])
    (h : wpList Try.prog ops Q rest (a.put o.dst (.agg (Wd.pgA (.slice none 0 0) (fun _ => Wd.fn0)))) w) : wpList Try.prog ops Q (o :: rest) a w := by
  obtain ⟨d, op, ty, ps, af, g⟩ := o
  simp only at ho hg
  subst ho
  exact wpList_runTo' hg _ _ (run_build55 _ _ _ _ _ _ _) h
theorem pgA_one (ao : Option Addr) (n c : Nat) (F : Nat → Wd.Fn) : (Wd.pgA (.slice ao n c) F).all (·.oneCell') = true := by
  simp [Wd.pgA, Value.oneCell']

theorem wrap_small (n : Int) (h0 : 0 ≤ n) (h1 : n < 1000000) : IntKind.i64.wrap n = n := by
  have e : n % (2 ^ IntKind.i64.bits : Int) = n := Int.emod_eq_of_lt h0 (by simp [IntKind.bits]; omega)
  simp only [IntKind.wrap, e]
  rw [if_neg]
  simp [IntKind.bits]; omega

theorem partOf_str (s : ByteArray) (b i : Nat) (hb : b < s.size) : Wd.partOf s.data.toList b i = ⟨((s[b].toNat : Nat) : Int), b, (s.extract (b + 2) i).data.toList⟩ := by
  rw [Wd.extract_str, Wd.at_str s b hb]; rfl

set_option maxRecDepth 100000 in
theorem split_any (s : ByteArray) (w : World) (hs : s.size ≤ 9000) :
    Calls Try.prog 107 #[.string s] w fun e w' => ∃ v, e = .returned (.agg (Wd.pgA v (Wd.split s.data.toList).F)) ∧ w'.ownsRow w.heap.size 200 3 v (Wd.split s.data.toList).ps.length (Wd.partsV (Wd.split s.data.toList).ps) ∧ Below w.heap.size w w' := by
  have HL := hide (Wd.len_str s)
  go_enter Try.func107, Try.ntmps107
  go_wp2_with (first | (refine wpList_alloc55 rfl rfl ?_) | (refine wpList_build55 rfl rfl ?_) | (refine wpList_store_row rfl 167 _ _ rfl _ _ rfl rfl 167 _ (heap_alloc_last _ _) Try.i55 rfl (pgA_one _ _ _ _) ?_))
  have s0 : (((w.alloc (.cells (Wd.pgA (.slice none 0 0) fun _ => Wd.fn0) 167)).alloc (.cells (Wd.pgA (.slice none 0 0) fun _ => Wd.fn0) 167)).setRow (w.heap.size + 1) (Wd.pgA (.slice none 0 0) fun _ => Wd.fn0)).heap[w.heap.size]? = some (.cells (Wd.pgA (.slice none 0 0) fun _ => Wd.fn0) 167 (0, 0)) := by
    rw [setRow_other _ _ _ _ (by omega)]; exact heap_alloc2_old _ _ _
  have s1 : Pg (((w.alloc (.cells (Wd.pgA (.slice none 0 0) fun _ => Wd.fn0) 167)).alloc (.cells (Wd.pgA (.slice none 0 0) fun _ => Wd.fn0) 167)).setRow (w.heap.size + 1) (Wd.pgA (.slice none 0 0) fun _ => Wd.fn0)) (w.heap.size + 1) [] (fun _ => Wd.fn0) :=
    ⟨.slice none 0 0, setRow_heap _ _ _ _ _ _ (heap_alloc2_new _ _ _), World.ownsRow_nil _ _ _ _⟩
  have s2 : Below w.heap.size w (((w.alloc (.cells (Wd.pgA (.slice none 0 0) fun _ => Wd.fn0) 167)).alloc (.cells (Wd.pgA (.slice none 0 0) fun _ => Wd.fn0) 167)).setRow (w.heap.size + 1) (Wd.pgA (.slice none 0 0) fun _ => Wd.fn0)) :=
    below_setRow (((Below.refl _ _).alloc (Nat.le_refl _) _).alloc (by simp) _) (by omega) _
  generalize ((w.alloc (.cells (Wd.pgA (.slice none 0 0) fun _ => Wd.fn0) 167)).alloc (.cells (Wd.pgA (.slice none 0 0) fun _ => Wd.fn0) 167)).setRow (w.heap.size + 1) (Wd.pgA (.slice none 0 0) fun _ => Wd.fn0) = W at *
  go_loopw [4, 5] (fun a b wr => ∃ k : Nat, k ≤ s.size ∧ b = .int .i64 k ∧ a = .int .i64 (((Wd.splitTo s.data.toList k).begin : Nat) : Int) ∧ wr.heap[w.heap.size]? = some (.cells (Wd.pgA (.slice none 0 0) fun _ => Wd.fn0) 167 (0, 0)) ∧ Pg wr (w.heap.size + 1) (Wd.splitTo s.data.toList k).ps (Wd.splitTo s.data.toList k).F ∧ Below w.heap.size w wr) (fun _ b _ => s.size - (intOf b).toNat)
  case atStart => exact ⟨0, Nat.zero_le _, rfl, rfl, s0, s1, s2⟩
  case round =>
    clear s0 s1 s2
    obtain ⟨k, hk, rfl, rfl, hA, hP, hbe⟩ := hrel
    have HA := hide hA
    have HP := hide hP
    have HB := hide hbe
    clear hA hP hbe
    by_cases hlt : k < s.size
    · have hbg := Wd.splitTo_begin s.data.toList k
      have hpl := Wd.splitTo_len s.data.toList k
      have HS := hide (show Wd.splitTo s.data.toList (k + 1) = Wd.splitStep s.data.toList (Wd.splitTo s.data.toList k) k from rfl)
      have HC := hide (Wd.at_str s k hlt)
      generalize Wd.splitTo s.data.toList k = sp at *
      obtain ⟨bg, ps, F⟩ := sp
      simp only at hbg hpl
      cases hc : (((s[k].toNat : Nat) : Int) == 125)
      · have HE : Hid (Wd.splitTo s.data.toList (k + 1) = ⟨bg, ps, F⟩) := by
          simp at hc
          apply hide; rw [HS.out, Wd.splitStep, if_neg]; rw [← HC.out]; exact fun h => hc h.1
        go_wp2_with fail
        go_roundw
        case rel => exact ⟨k + 1, by omega, by go_num, by rw [HE.out], HA.out, by rw [HE.out]; exact HP.out, HB.out⟩
        case measure => simp [intOf]; omega
      · by_cases hb2 : bg + 2 ≤ k
        · have HE : Hid (Wd.splitTo s.data.toList (k + 1) = ⟨k + 1, ps ++ [Wd.partOf s.data.toList bg k], Wd.addF F (Wd.partOf s.data.toList bg k)⟩) := by
            simp at hc
            apply hide; rw [HS.out, Wd.splitStep, if_pos]; rw [← HC.out]; exact ⟨by omega, hb2⟩
          have b0 := Wd.at_lo s.data.toList bg
          have b1 := Wd.at_hi s.data.toList bg
          have hbs : bg < s.size := by omega
          rw [← Wd.at_str s bg hbs] at b0 b1
          have HPO := hide (partOf_str s bg k hbs)
          have hbi : (0 : Int) ≤ (bg : Int) := by omega
          have hbj : (bg : Int) < (s.size : Int) := by omega
          have hbk : (bg : Int) + 2 ≤ (k : Int) := by omega
          have hbl : (k : Int) ≤ (s.size : Int) := by omega
          go_wp2_with fail
          have hwr := wrap_small ((bg : Int) + 2) (by omega) (by omega)
          have h02 : (0 : Int) ≤ (bg : Int) + 2 := by omega
          go_region_held3 (fun _ => True) (trivial) (first | (go_at_call 134; refine (add_any _ _ _ _ _ _ _ b0 b1 (by omega) (Pg.draw HP.out)).mono ?_; rintro e w' ⟨rfl, hpg, hb⟩))
          go_wp2
          refine ⟨⟨k + 1, by omega, by go_num, by rw [HE.out]; go_num, ?_, by rw [HE.out, HPO.out]; exact hpg, HB.out.drew.trans (hb.mono (by omega))⟩, by simp [intOf]; omega⟩
          rw [hb.block w.heap.size (by omega)]; exact HA.out
        · have HE : Hid (Wd.splitTo s.data.toList (k + 1) = ⟨bg, ps, F⟩) := by
            apply hide; rw [HS.out, Wd.splitStep, if_neg]; exact fun h => hb2 h.2
          go_wp2_with fail
          go_roundw
          case rel => exact ⟨k + 1, by omega, by go_num, by rw [HE.out], HA.out, by rw [HE.out]; exact HP.out, HB.out⟩
          case measure => simp [intOf]; omega
    · obtain rfl : k = s.size := by omega
      obtain ⟨v, hh, hown⟩ := HP.out
      obtain ⟨ao, cap, hv⟩ : ∃ ao cap, v = .slice ao (Wd.splitTo s.data.toList s.size).ps.length cap := by
        rcases hown.2 with ⟨h1, h2⟩ | ⟨g, cap, cur, h1, _⟩
        · exact ⟨none, 0, by rw [h1, h2]⟩
        · exact ⟨_, _, h1⟩
      have hsp : Wd.split s.data.toList = Wd.splitTo s.data.toList s.size := by rw [Wd.split, HL.out]
      have HSP := hide hsp
      have HH := hide hh
      have HO := hide hown
      have HV := hide hv
      clear hh hown hsp hv
      go_wp2_with (first | (refine wpList_load_row rfl 167 _ rfl _ rfl 167 _ (0, 0) _ HH.out Try.underlying167 rfl Try.i55 ?_) | (refine wpList_store_row rfl 167 _ _ rfl _ _ rfl rfl 167 _ HA.out Try.i55 rfl (by rw [HV.out]; exact pgA_one _ _ _ _) ?_))
      refine bodyPost_ret (v := .agg (Wd.pgA v (Wd.split s.data.toList).F)) (results_cell_row Try.results107 _ _ w.heap.size 167 _ (0, 0) _ rfl (by rw [HSP.out]; exact setRow_heap _ _ _ _ _ _ HA.out) Try.underlying167 rfl Try.i55) rfl ⟨v, rfl, ?_, below_setRow HB.out (Nat.le_refl _) _⟩
      rw [HSP.out]
      obtain ⟨r1, r2⟩ := HO.out
      refine ⟨r1, ?_⟩
      rcases r2 with r2 | ⟨g, cap, cur, hv, hg, hh, r⟩
      · exact .inl r2
      · exact .inr ⟨g, cap, cur, hv, by omega, by rw [setRow_other _ _ _ _ (by omega)]; exact hh, r⟩
end Go.Proofs.Ytecmfdkhcffpmaa
/- Own slices and rows that were made, for what follows. -/
namespace Go.Proofs.Ytecmfdkhcffpmaa
open Go.RowKit
set_option linter.unusedSimpArgs false
set_option linter.unusedVariables false
set_option maxHeartbeats 8000000
open Mc
theorem Try.infoInt : (Try.prog.info? 3).map (fun i => (i.zero, i.size, i.bytes)) = some (some (.int .i64 0), 1, 8) := by kernel_rfl
theorem Try.infoBool : (Try.prog.info? 4).map (fun i => (i.zero, i.size, i.bytes)) = some (some (.bool false), 1, 1) := by kernel_rfl
theorem mk_ints (w : World) (n : Nat) (hn : n ≤ 1000) : (Instr.makeSlice 64 (.int .i64 n) (.int .i64 n)).run Try.prog w = .ok (.slice (some ⟨w.heap.size, 0, none⟩) n n) (w.alloc (.cells (madeCells #[.int .i64 0] n) 3)) := by
  obtain ⟨i, h1, h2, h3, h4⟩ := info_parts Try.infoInt
  have := run_make w 64 3 i _ Try.underlying64 h1 h2 .i64 .i64 n n (by omega) (by omega) (by rw [h4]; omega) (by omega)
  rw [this, h3]; simp [Value.cells]
theorem madeCells_at (z : Array Value) (m i : Nat) (h : i < m) : (madeCells z m)[i]? = some (z[i % z.size]!) := by simp [madeCells, h]
theorem own_same {w w' : World} {base : Nat} {e : TypeId} {size : Nat} {v : Value} {n : Nat} {xs : List Value} (h : w.ownsRow base e size v n xs) (hb : ∀ g, base ≤ g → g < w.heap.size → w'.heap[g]? = w.heap[g]?) : w'.ownsRow base e size v n xs := by
  obtain ⟨a1, a2⟩ := h
  refine ⟨a1, ?_⟩
  rcases a2 with a2 | ⟨g', cap, cur, hv', hg, hh, r⟩
  · exact .inl a2
  · exact .inr ⟨g', cap, cur, hv', hg, by rw [hb g' hg (row_lt hh)]; exact hh, r⟩
theorem newsL (w : World) (vs : List Value) (t : TypeId) : ∀ j u, vs[j]? = some u → (w.alloc (.cells vs.toArray t)).cell? ((⟨w.heap.size, 0, none⟩ : Addr).add j) = some u := World.news_of_block (cs := vs.toArray) (heap_alloc_last _ _)
theorem grown_oth {w3 w5 : World} {o : Obj} {q : Option Nat} (hg : (w3.alloc o).grownBy w5 q) : ∀ j, j < w3.heap.size → q ≠ some j → w5.heap[j]? = w3.heap[j]? := fun j hj hne => by
  rw [hg.block j (by simp; omega) (fun e => hne e.symm), heap_alloc_old _ _ hj]
theorem Blk.alloc3 {w w' : World} {g n : Nat} {f : Nat → Value} (h : Blk w g n f) (hb : Below w.heap.size w w') : Blk w' g n f := h.below hb
theorem own_v {w : World} {base : Nat} {e : TypeId} {size : Nat} {v : Value} {n : Nat} {xs : List Value} (h : w.ownsRow base e size v n xs) : ∃ ao c, v = .slice ao n c := by
  rcases h.2 with ⟨rfl, h0⟩ | ⟨g, cap, cur, rfl, _⟩
  · exact ⟨none, 0, by rw [h0]⟩
  · exact ⟨_, _, rfl⟩
end Go.Proofs.Ytecmfdkhcffpmaa
