/- SrcE, OwnK, Pure9, Same1. -/
import Derived.Test.YtecmfdkhcffpmaaB17
import Derived.Test.YtecmfdkhcffpmaaB02
import Derived.Deep.RegionWith
import Derived.Test.YtecmfdkhcffpmaaB06
import Derived.Deep.RegionHeld3
import Derived.Laws.MakeOwn
import Derived.Deep.AppendLies
import Derived.Deep.RegionLaw
import Derived.Laws.BytesArg
import Derived.Laws.IdiomStrings
import Derived.Maps.AppendAt
import Derived.Test.YtecmfdkhcffpmaaB03
import Derived.Test.YtecmfdkhcffpmaaB14
/- Contract of the program's 'split': a source taken apart. -/
namespace Go.Proofs.Ytecmfdkhcffpmaa
open Go.RowKit
set_option linter.unusedSimpArgs false
set_option linter.unusedVariables false
set_option maxHeartbeats 800000

theorem Try.i55 : (Try.prog.info? 167).map (·.size) = some 41 := by kernel_rfl

theorem own_mono {w : World} {base base' : Nat} {e : TypeId} {size : Nat} {v : Value} {n : Nat} {xs : List Value} (h : w.ownsRow base e size v n xs) (hb : base' ≤ base) : w.ownsRow base' e size v n xs := by
  obtain ⟨h1, h2⟩ := h
  refine ⟨h1, ?_⟩
  rcases h2 with h2 | ⟨g, cap, cur, hv, hg, r⟩
  · exact .inl h2
  · exact .inr ⟨g, cap, cur, hv, by omega, r⟩

theorem wpList_runTo' {P : Program} {ops : Array Oper} {rest : List Oper} {o : Oper} {a : Act} {w : World} {Q : Exit → Act → World → Prop} (hg : o.guard = none)
    (v : Value) (w' : World) (hrun : (execOp a.eval o).run P w = .ok (.value v) w') (h : wpList P ops Q rest (a.put o.dst v) w') : wpList P ops Q (o :: rest) a w := by
  refine wpList_plain hg fun K hK => ?_
  unfold Oper.wp
  rw [hrun, Oper.upon_value]
  exact hK _ _ h

theorem run_alloc55 (ρ : Operand → Value) (d : Option Tmp) (ty : TypeId) (ps : String) (af : Array Edge) (g : Option (Nat × Bool)) (w : World) :
    (execOp ρ { dst := d, op := .alloc 167, type := ty, pos := ps, after := af, guard := g }).run Try.prog w = .ok (.value (.pointer (some ⟨w.heap.size, 0, none⟩))) (w.alloc (.cells (Wd.pgA (.slice none 0 0) (fun _ => Wd.fn0)) 167)) := by kernel_rfl
theorem run_build55 (ρ : Operand → Value) (d : Option Tmp) (ty : TypeId) (ps : String) (af : Array Edge) (g : Option (Nat × Bool)) (w : World) :
    (execOp ρ { dst := d, op := .build 167 #[], type := ty, pos := ps, after := af, guard := g }).run Try.prog w = .ok (.value (.agg (Wd.pgA (.slice none 0 0) (fun _ => Wd.fn0)))) w := by kernel_rfl
theorem wpList_alloc55 {ops : Array Oper} {rest : List Oper} {o : Oper} {a : Act} {w : World} {Q : Exit → Act → World → Prop} (hg : o.guard = none) (ho : o.op = .alloc 167)
    (h : wpList Try.prog ops Q rest (a.put o.dst (.pointer (some ⟨w.heap.size, 0, none⟩))) (w.alloc (.cells (Wd.pgA (.slice none 0 0) (fun _ => Wd.fn0)) 167))) : wpList Try.prog ops Q (o :: rest) a w := by
  obtain ⟨d, op, ty, ps, af, g⟩ := o
  simp only at ho hg
  subst ho
  exact wpList_runTo' hg _ _ (run_alloc55 _ _ _ _ _ _ _) h
theorem wpList_build55 {ops : Array Oper} {rest : List Oper} {o : Oper} {a : Act} {w : World} {Q : Exit → Act → World → Prop} (hg : o.guard = none) (ho : o.op = .build 167 #[])
    (h : wpList Try.prog ops Q rest (a.put o.dst (.agg (Wd.pgA (.slice none 0 0) (fun _ => Wd.fn0)))) w) : wpList Try.prog ops Q (o :: rest) a w := by
  obtain ⟨d, op, ty, ps, af, g⟩ := o
  simp only at ho hg
  subst ho
  exact wpList_runTo' hg _ _ (run_build55 _ _ _ _ _ _ _) h
theorem pgA_one (ao : Option Addr) (n c : Nat) (F : Nat → Wd.Fn) : (Wd.pgA (.slice ao n c) F).all (·.oneCell') = true := by
  simp [Wd.pgA, Value.oneCell']

theorem wrap_small (n : Int) (h0 : 0 ≤ n) (h1 : n < 1000000) : IntKind.i64.wrap n = n := by
  have e : n % (2 ^ IntKind.i64.bits : Int) = n := Int.emod_eq_of_lt h0 (by simp [IntKind.bits]; omega)
  simp only [IntKind.wrap, e]
  rw [if_neg]
  simp [IntKind.bits]; omega

theorem partOf_str (s : ByteArray) (b i : Nat) (hb : b < s.size) : Wd.partOf s.data.toList b i = ⟨((s[b].toNat : Nat) : Int), b, (s.extract (b + 2) i).data.toList⟩ := by
  rw [Wd.extract_str, Wd.at_str s b hb]; rfl

set_option maxRecDepth 100000 in
theorem split_any (s : ByteArray) (w : World) (hs : s.size ≤ 9000) :
    Calls Try.prog 107 #[.string s] w fun e w' => ∃ v, e = .returned (.agg (Wd.pgA v (Wd.split s.data.toList).F)) ∧ w'.ownsRow w.heap.size 200 3 v (Wd.split s.data.toList).ps.length (Wd.partsV (Wd.split s.data.toList).ps) ∧ Below w.heap.size w w' := by
  have HL := hide (Wd.len_str s)
  go_enter Try.func107, Try.ntmps107
  go_wp2_with (first | (refine wpList_alloc55 rfl rfl ?_) | (refine wpList_build55 rfl rfl ?_) | (refine wpList_store_row rfl 167 _ _ rfl _ _ rfl rfl 167 _ (heap_alloc_last _ _) Try.i55 rfl (pgA_one _ _ _ _) ?_))
  have s0 : (((w.alloc (.cells (Wd.pgA (.slice none 0 0) fun _ => Wd.fn0) 167)).alloc (.cells (Wd.pgA (.slice none 0 0) fun _ => Wd.fn0) 167)).setRow (w.heap.size + 1) (Wd.pgA (.slice none 0 0) fun _ => Wd.fn0)).heap[w.heap.size]? = some (.cells (Wd.pgA (.slice none 0 0) fun _ => Wd.fn0) 167 (0, 0)) := by
    rw [setRow_other _ _ _ _ (by omega)]; exact heap_alloc2_old _ _ _
  have s1 : Pg (((w.alloc (.cells (Wd.pgA (.slice none 0 0) fun _ => Wd.fn0) 167)).alloc (.cells (Wd.pgA (.slice none 0 0) fun _ => Wd.fn0) 167)).setRow (w.heap.size + 1) (Wd.pgA (.slice none 0 0) fun _ => Wd.fn0)) (w.heap.size + 1) [] (fun _ => Wd.fn0) :=
    ⟨.slice none 0 0, setRow_heap _ _ _ _ _ _ (heap_alloc2_new _ _ _), World.ownsRow_nil _ _ _ _⟩
  have s2 : Below w.heap.size w (((w.alloc (.cells (Wd.pgA (.slice none 0 0) fun _ => Wd.fn0) 167)).alloc (.cells (Wd.pgA (.slice none 0 0) fun _ => Wd.fn0) 167)).setRow (w.heap.size + 1) (Wd.pgA (.slice none 0 0) fun _ => Wd.fn0)) :=
    below_setRow (((Below.refl _ _).alloc (Nat.le_refl _) _).alloc (by simp) _) (by omega) _
  generalize ((w.alloc (.cells (Wd.pgA (.slice none 0 0) fun _ => Wd.fn0) 167)).alloc (.cells (Wd.pgA (.slice none 0 0) fun _ => Wd.fn0) 167)).setRow (w.heap.size + 1) (Wd.pgA (.slice none 0 0) fun _ => Wd.fn0) = W at *
  go_loopw [4, 5] (fun a b wr => ∃ k : Nat, k ≤ s.size ∧ b = .int .i64 k ∧ a = .int .i64 (((Wd.splitTo s.data.toList k).begin : Nat) : Int) ∧ wr.heap[w.heap.size]? = some (.cells (Wd.pgA (.slice none 0 0) fun _ => Wd.fn0) 167 (0, 0)) ∧ Pg wr (w.heap.size + 1) (Wd.splitTo s.data.toList k).ps (Wd.splitTo s.data.toList k).F ∧ Below w.heap.size w wr) (fun _ b _ => s.size - (intOf b).toNat)
  case atStart => exact ⟨0, Nat.zero_le _, rfl, rfl, s0, s1, s2⟩
  case round =>
    clear s0 s1 s2
    obtain ⟨k, hk, rfl, rfl, hA, hP, hbe⟩ := hrel
    have HA := hide hA
    have HP := hide hP
    have HB := hide hbe
    clear hA hP hbe
    by_cases hlt : k < s.size
    · have hbg := Wd.splitTo_begin s.data.toList k
      have hpl := Wd.splitTo_len s.data.toList k
      have HS := hide (show Wd.splitTo s.data.toList (k + 1) = Wd.splitStep s.data.toList (Wd.splitTo s.data.toList k) k from rfl)
      have HC := hide (Wd.at_str s k hlt)
      generalize Wd.splitTo s.data.toList k = sp at *
      obtain ⟨bg, ps, F⟩ := sp
      simp only at hbg hpl
      cases hc : (((s[k].toNat : Nat) : Int) == 125)
      · have HE : Hid (Wd.splitTo s.data.toList (k + 1) = ⟨bg, ps, F⟩) := by
          simp at hc
          apply hide; rw [HS.out, Wd.splitStep, if_neg]; rw [← HC.out]; exact fun h => hc h.1
        go_wp2_with fail
        go_roundw
        case rel => exact ⟨k + 1, by omega, by go_num, by rw [HE.out], HA.out, by rw [HE.out]; exact HP.out, HB.out⟩
        case measure => simp [intOf]; omega
      · by_cases hb2 : bg + 2 ≤ k
        · have HE : Hid (Wd.splitTo s.data.toList (k + 1) = ⟨k + 1, ps ++ [Wd.partOf s.data.toList bg k], Wd.addF F (Wd.partOf s.data.toList bg k)⟩) := by
            simp at hc
            apply hide; rw [HS.out, Wd.splitStep, if_pos]; rw [← HC.out]; exact ⟨by omega, hb2⟩
          have b0 := Wd.at_lo s.data.toList bg
          have b1 := Wd.at_hi s.data.toList bg
          have hbs : bg < s.size := by omega
          rw [← Wd.at_str s bg hbs] at b0 b1
          have HPO := hide (partOf_str s bg k hbs)
          have hbi : (0 : Int) ≤ (bg : Int) := by omega
          have hbj : (bg : Int) < (s.size : Int) := by omega
          have hbk : (bg : Int) + 2 ≤ (k : Int) := by omega
          have hbl : (k : Int) ≤ (s.size : Int) := by omega
          go_wp2_with fail
          have hwr := wrap_small ((bg : Int) + 2) (by omega) (by omega)
          have h02 : (0 : Int) ≤ (bg : Int) + 2 := by omega
          go_region_held3 (fun _ => True) (trivial) (first | (go_at_call 134; refine (add_any _ _ _ _ _ _ _ b0 b1 (by omega) (Pg.draw HP.out)).mono ?_; rintro e w' ⟨rfl, hpg, hb⟩))
          go_wp2
          refine ⟨⟨k + 1, by omega, by go_num, by rw [HE.out]; go_num, ?_, by rw [HE.out, HPO.out]; exact hpg, HB.out.drew.trans (hb.mono (by omega))⟩, by simp [intOf]; omega⟩
          rw [hb.block w.heap.size (by omega)]; exact HA.out
        · have HE : Hid (Wd.splitTo s.data.toList (k + 1) = ⟨bg, ps, F⟩) := by
            apply hide; rw [HS.out, Wd.splitStep, if_neg]; exact fun h => hb2 h.2
          go_wp2_with fail
          go_roundw
          case rel => exact ⟨k + 1, by omega, by go_num, by rw [HE.out], HA.out, by rw [HE.out]; exact HP.out, HB.out⟩
          case measure => simp [intOf]; omega
    · obtain rfl : k = s.size := by omega
      obtain ⟨v, hh, hown⟩ := HP.out
      obtain ⟨ao, cap, hv⟩ : ∃ ao cap, v = .slice ao (Wd.splitTo s.data.toList s.size).ps.length cap := by
        rcases hown.2 with ⟨h1, h2⟩ | ⟨g, cap, cur, h1, _⟩
        · exact ⟨none, 0, by rw [h1, h2]⟩
        · exact ⟨_, _, h1⟩
      have hsp : Wd.split s.data.toList = Wd.splitTo s.data.toList s.size := by rw [Wd.split, HL.out]
      have HSP := hide hsp
      have HH := hide hh
      have HO := hide hown
      have HV := hide hv
      clear hh hown hsp hv
      go_wp2_with (first | (refine wpList_load_row rfl 167 _ rfl _ rfl 167 _ (0, 0) _ HH.out Try.underlying167 rfl Try.i55 ?_) | (refine wpList_store_row rfl 167 _ _ rfl _ _ rfl rfl 167 _ HA.out Try.i55 rfl (by rw [HV.out]; exact pgA_one _ _ _ _) ?_))
      refine bodyPost_ret (v := .agg (Wd.pgA v (Wd.split s.data.toList).F)) (results_cell_row Try.results107 _ _ w.heap.size 167 _ (0, 0) _ rfl (by rw [HSP.out]; exact setRow_heap _ _ _ _ _ _ HA.out) Try.underlying167 rfl Try.i55) rfl ⟨v, rfl, ?_, below_setRow HB.out (Nat.le_refl _) _⟩
      rw [HSP.out]
      obtain ⟨r1, r2⟩ := HO.out
      refine ⟨r1, ?_⟩
      rcases r2 with r2 | ⟨g, cap, cur, hv, hg, hh, r⟩
      · exact .inl r2
      · exact .inr ⟨g, cap, cur, hv, by omega, by rw [setRow_other _ _ _ _ (by omega)]; exact hh, r⟩
end Go.Proofs.Ytecmfdkhcffpmaa
/- Own slices and rows that were made, for what follows. -/
namespace Go.Proofs.Ytecmfdkhcffpmaa
open Go.RowKit
set_option linter.unusedSimpArgs false
set_option linter.unusedVariables false
set_option maxHeartbeats 8000000
open Mc
theorem Try.infoInt : (Try.prog.info? 3).map (fun i => (i.zero, i.size, i.bytes)) = some (some (.int .i64 0), 1, 8) := by kernel_rfl
theorem Try.infoBool : (Try.prog.info? 4).map (fun i => (i.zero, i.size, i.bytes)) = some (some (.bool false), 1, 1) := by kernel_rfl
theorem mk_ints (w : World) (n : Nat) (hn : n ≤ 1000) : (Instr.makeSlice 64 (.int .i64 n) (.int .i64 n)).run Try.prog w = .ok (.slice (some ⟨w.heap.size, 0, none⟩) n n) (w.alloc (.cells (madeCells #[.int .i64 0] n) 3)) := by
  obtain ⟨i, h1, h2, h3, h4⟩ := info_parts Try.infoInt
  have := run_make w 64 3 i _ Try.underlying64 h1 h2 .i64 .i64 n n (by omega) (by omega) (by rw [h4]; omega) (by omega)
  rw [this, h3]; simp [Value.cells]
theorem madeCells_at (z : Array Value) (m i : Nat) (h : i < m) : (madeCells z m)[i]? = some (z[i % z.size]!) := by simp [madeCells, h]
theorem own_same {w w' : World} {base : Nat} {e : TypeId} {size : Nat} {v : Value} {n : Nat} {xs : List Value} (h : w.ownsRow base e size v n xs) (hb : ∀ g, base ≤ g → g < w.heap.size → w'.heap[g]? = w.heap[g]?) : w'.ownsRow base e size v n xs := by
  obtain ⟨a1, a2⟩ := h
  refine ⟨a1, ?_⟩
  rcases a2 with a2 | ⟨g', cap, cur, hv', hg, hh, r⟩
  · exact .inl a2
  · exact .inr ⟨g', cap, cur, hv', hg, by rw [hb g' hg (row_lt hh)]; exact hh, r⟩
theorem newsL (w : World) (vs : List Value) (t : TypeId) : ∀ j u, vs[j]? = some u → (w.alloc (.cells vs.toArray t)).cell? ((⟨w.heap.size, 0, none⟩ : Addr).add j) = some u := World.news_of_block (cs := vs.toArray) (heap_alloc_last _ _)
theorem grown_oth {w3 w5 : World} {o : Obj} {q : Option Nat} (hg : (w3.alloc o).grownBy w5 q) : ∀ j, j < w3.heap.size → q ≠ some j → w5.heap[j]? = w3.heap[j]? := fun j hj hne => by
  rw [hg.block j (by simp; omega) (fun e => hne e.symm), heap_alloc_old _ _ hj]
theorem own_v {w : World} {base : Nat} {e : TypeId} {size : Nat} {v : Value} {n : Nat} {xs : List Value} (h : w.ownsRow base e size v n xs) : ∃ ao c, v = .slice ao n c := by
  rcases h.2 with ⟨rfl, h0⟩ | ⟨g, cap, cur, rfl, _⟩
  · exact ⟨none, 0, by rw [h0]⟩
  · exact ⟨_, _, rfl⟩
end Go.Proofs.Ytecmfdkhcffpmaa
/- The plain function of the program's 'read': the error and the place, or the items. -/
namespace Go.Proofs.Ytecmfdkhcffpmaa
open Go.RowKit
set_option linter.unusedSimpArgs false
set_option linter.unusedVariables false
namespace Wd
theorem partOf_fine (l : List UInt8) (b i : Nat) (hl : l.length ≤ 10000) (hb : b ≤ 10000) : (partOf l b i).fine := by
  refine ⟨at_lo _ _, at_hi _ _, hb, ?_⟩
  simp [partOf]; omega
theorem splitTo_fine (l : List UInt8) (hl : l.length ≤ 10000) (k : Nat) (hk : k ≤ 10000) : (∀ p ∈ (splitTo l k).ps, p.fine) ∧ FnFine (splitTo l k).F := by
  induction k with
  | zero => exact ⟨by simp [splitTo], fun j => by simp [splitTo, fn0]⟩
  | succ k ih =>
    obtain ⟨h1, h2⟩ := ih (by omega)
    have hb := splitTo_begin l k
    simp only [splitTo, splitStep]
    split
    · have hf := partOf_fine l (splitTo l k).begin k hl (by omega)
      refine ⟨?_, ?_⟩
      · intro p hp
        simp at hp
        rcases hp with hp | hp
        · exact h1 p hp
        · rw [hp]; exact hf
      · intro j
        simp only [addF]
        split
        · by_cases e : j = ((partOf l (splitTo l k).begin k).letter - 65).toNat
          · simp only [e, if_true]; exact ⟨by simp, hf.2.2.2⟩
          · simp only [e, if_false]; exact h2 j
        · exact h2 j
    · exact ⟨h1, h2⟩
def readP (l : List UInt8) : Except (Int × Int) (List It) :=
  if 240 < l.length then .error (1, 0)
  else match fault l with
    | some i => .error (2, (i : Int))
    | none => match names (split l).F (split l).ps with
      | some i => .error (3, (i : Int))
      | none => if left (roundsTo (split l).F 8) = true then .error (4, 0) else match items (roundsTo (split l).F 8) (split l).ps with
        | .error n => .error (5, (n : Int))
        | .ok its => .ok its
theorem readP_long {l : List UInt8} (h : 240 < l.length) : readP l = .error (1, 0) := by simp [readP, h]
theorem readP_text {l : List UInt8} (h : ¬ 240 < l.length) {i : Nat} (h1 : fault l = some i) : readP l = .error (2, (i : Int)) := by simp only [readP, if_neg h, h1]
theorem readP_name {l : List UInt8} (h : ¬ 240 < l.length) {i : Nat} (h1 : fault l = none) (h2 : names (split l).F (split l).ps = some i) : readP l = .error (3, (i : Int)) := by simp only [readP, if_neg h, h1, h2]
theorem readP_round {l : List UInt8} (h : ¬ 240 < l.length) (h1 : fault l = none) (h2 : names (split l).F (split l).ps = none) (h3 : left (roundsTo (split l).F 8) = true) : readP l = .error (4, 0) := by simp only [readP, if_neg h, h1, h2, if_pos h3]
theorem readP_big {l : List UInt8} (h : ¬ 240 < l.length) (h1 : fault l = none) (h2 : names (split l).F (split l).ps = none) (h3 : left (roundsTo (split l).F 8) = false) {n : Nat} (h4 : items (roundsTo (split l).F 8) (split l).ps = .error n) : readP l = .error (5, (n : Int)) := by simp [readP, if_neg h, h1, h2, h3, h4]
theorem readP_ok {l : List UInt8} (h : ¬ 240 < l.length) (h1 : fault l = none) (h2 : names (split l).F (split l).ps = none) (h3 : left (roundsTo (split l).F 8) = false) {its : List It} (h4 : items (roundsTo (split l).F 8) (split l).ps = .ok its) : readP l = .ok its := by simp [readP, if_neg h, h1, h2, h3, h4]
def checkP (l : List UInt8) : Int × Int := match readP l with
  | .ok _ => (0, 0)
  | .error x => x
end Wd
end Go.Proofs.Ytecmfdkhcffpmaa
/- The two readers of the form stop at the same byte. -/
namespace Go.Proofs.Ytecmfdkhcffpmaa
set_option linter.unusedSimpArgs false
set_option linter.unusedVariables false
namespace Wd
def Rel (p r : St) : Prop := p.want = r.want ∧ p.items = r.items ∧ (∀ c ∈ p.op, bt c = 40 ∨ bt c = 91 ∨ bt c = 124) ∧
  (((p.want = 0 ∨ p.want = 1) ∧ p.op = []) ∨ ((p.want = 2 ∨ p.want = 3 ∨ p.want = 4) ∧ r.op = 123 :: p.op))
theorem at_mem {l : List UInt8} {i : Nat} (h : i < l.length) : ∃ c ∈ l, at_ l i = bt c := by
  refine ⟨l[i], List.getElem_mem h, ?_⟩
  simp [at_, bt, h]
theorem lastIs_cons (a : UInt8) (o : List UInt8) (d : Int) (h : o ≠ []) : lastIs (a :: o) d = (at_ o (o.length - 1) == d) := by
  cases o with
  | nil => exact absurd rfl h
  | cons b r => simp [lastIs, at_]
theorem take_cons_last (a : UInt8) (o : List UInt8) (h : o ≠ []) : (a :: o).take ((a :: o).length - 1) = a :: o.take (o.length - 1) := by
  cases o with
  | nil => exact absurd rfl h
  | cons b r => simp
/-- A byte in a body: the two readers agree. -/
theorem body_rel (o : List UInt8) (items : Nat) (hop : ∀ c ∈ o, bt c = 40 ∨ bt c = 91 ∨ bt c = 124) (c : Int) :
    (bodyP ⟨2, o, items⟩ c = none ∧ opened c (123 :: o) = none) ∨
    ∃ (w : Int) (o1 o2 : List UInt8), bodyP ⟨2, o, items⟩ c = some ⟨w, o1, items⟩ ∧ opened c (123 :: o) = some (w, o2) ∧ (∀ c ∈ o1, bt c = 40 ∨ bt c = 91 ∨ bt c = 124) ∧ ((w = 0 ∧ o1 = []) ∨ ((w = 2 ∨ w = 3 ∨ w = 4) ∧ o2 = 123 :: o1)) := by
  unfold bodyP opened
  simp only
  by_cases b1 : c = 43 ∨ c = 45
  · right; exact ⟨3, o, _, by rw [if_pos b1], by rw [if_pos b1], hop, by simp⟩
  rw [if_neg b1, if_neg b1]
  by_cases b2 : c = 114 ∨ c = 119
  · right; exact ⟨4, o, _, by rw [if_pos b2], by rw [if_pos b2], hop, by simp⟩
  rw [if_neg b2, if_neg b2]
  by_cases b3 : c = 60 ∨ c = 62 ∨ c = 122
  · right; exact ⟨2, o, _, by rw [if_pos b3], by rw [if_pos (by rcases b3 with h | h | h <;> simp [h])], hop, by simp⟩
  rw [if_neg b3]
  by_cases bu : up c = true
  · right
    have hu := bu
    simp [up] at hu
    refine ⟨2, o, _, ?_, by rw [if_pos (by simp [bu])], hop, by simp⟩
    rw [if_neg (by omega), if_neg (by omega), if_neg (by omega), if_neg (by omega), if_neg (by omega), if_neg (by omega), if_pos bu]
  have b3' : ¬ (c = 60 ∨ c = 62 ∨ c = 122 ∨ up c = true) := by
    rintro (h | h | h | h)
    · exact b3 (Or.inl h)
    · exact b3 (Or.inr (Or.inl h))
    · exact b3 (Or.inr (Or.inr h))
    · exact bu h
  rw [if_neg b3']
  by_cases b4 : c = 40
  · right; refine ⟨2, o ++ [40], _, by rw [if_pos b4], by rw [if_pos b4], ?_, by simp⟩
    intro x hx; simp at hx; rcases hx with hx | hx
    · exact hop x hx
    · subst hx; left; rfl
  rw [if_neg b4, if_neg b4]
  by_cases b5 : c = 91
  · right; refine ⟨2, o ++ [91], _, by rw [if_pos b5], by rw [if_pos b5], ?_, by simp⟩
    intro x hx; simp at hx; rcases hx with hx | hx
    · exact hop x hx
    · subst hx; right; left; rfl
  rw [if_neg b5, if_neg b5]
  have hsub : ∀ n, ∀ x ∈ o.take n, bt x = 40 ∨ bt x = 91 ∨ bt x = 124 := fun n x hx => hop x (List.mem_of_mem_take hx)
  have h123 : o ≠ [] → at_ o (o.length - 1) ≠ 123 := by
    intro ho hh
    have hl : o.length - 1 < o.length := by have := List.length_pos_iff.2 ho; omega
    obtain ⟨x, hx, e⟩ := at_mem hl
    rw [e] at hh
    have := hop x hx
    omega
  have hsh : ∀ d : Int, d ≠ 123 → lastIs (123 :: o) d = (shut o d).isSome := by
    intro d hd
    by_cases ho : o = []
    · subst ho; simp [lastIs, shut, at_]; intro h; exact hd h.symm
    · rw [lastIs_cons _ _ _ ho]
      have := List.length_pos_iff.2 ho
      simp only [shut]
      by_cases hq : at_ o (o.length - 1) = d
      · simp [hq, this]
      · simp [hq]
  have hshv : ∀ d x, shut o d = some x → o ≠ [] ∧ x = o.take (o.length - 1) := by
    intro d x hx
    simp only [shut] at hx
    split at hx
    · next h => cases hx; exact ⟨List.length_pos_iff.1 h.1, rfl⟩
    · cases hx
  by_cases b6 : c = 124
  · subst b6
    simp only [if_true, true_and]
    cases hq : shut o 40 with
    | none => left; simp [hsh 40 (by decide), hq]
    | some x =>
      obtain ⟨ho, rfl⟩ := hshv 40 x hq
      right
      refine ⟨2, o.take (o.length - 1) ++ [124], (123 :: o).take ((123 :: o).length - 1) ++ [124], rfl, by simp [hsh 40 (by decide), hq], ?_, Or.inr ⟨Or.inl rfl, by rw [take_cons_last _ _ ho]; rfl⟩⟩
      intro y hy; simp only [List.mem_append, List.mem_singleton] at hy; rcases hy with hy | hy
      · exact hsub _ y hy
      · subst hy; right; right; rfl
  rw [if_neg b6, if_neg (show ¬ (c = 124 ∧ lastIs (123 :: o) 40 = true) from fun h => b6 h.1)]
  by_cases b7 : c = 41
  · subst b7
    simp only [if_true, true_and]
    cases hq : shut o 124 with
    | none => left; simp [hsh 124 (by decide), hq]
    | some x =>
      obtain ⟨ho, rfl⟩ := hshv 124 x hq
      right
      exact ⟨2, o.take (o.length - 1), (123 :: o).take ((123 :: o).length - 1), rfl, by simp [hsh 124 (by decide), hq], hsub _, Or.inr ⟨Or.inl rfl, take_cons_last _ _ ho⟩⟩
  rw [if_neg b7, if_neg (show ¬ (c = 41 ∧ lastIs (123 :: o) 124 = true) from fun h => b7 h.1)]
  by_cases b8 : c = 93
  · subst b8
    simp only [if_true, true_and]
    cases hq : shut o 91 with
    | none => left; simp [hsh 91 (by decide), hq]
    | some x =>
      obtain ⟨ho, rfl⟩ := hshv 91 x hq
      right
      exact ⟨2, o.take (o.length - 1), (123 :: o).take ((123 :: o).length - 1), rfl, by simp [hsh 91 (by decide), hq], hsub _, Or.inr ⟨Or.inl rfl, take_cons_last _ _ ho⟩⟩
  rw [if_neg b8, if_neg (show ¬ (c = 93 ∧ lastIs (123 :: o) 91 = true) from fun h => b8 h.1)]
  by_cases b9 : c = 125
  · subst b9
    simp only [if_true, true_and]
    by_cases ho : o = []
    · subst ho
      right
      exact ⟨0, [], [], rfl, by simp [lastIs, at_], by simp, Or.inl ⟨rfl, rfl⟩⟩
    · left
      have := List.length_pos_iff.2 ho
      refine ⟨by rw [if_neg (by omega)], ?_⟩
      rw [lastIs_cons _ _ _ ho, if_neg]
      simpa using h123 ho
  · rw [if_neg b9, if_neg (show ¬ (c = 125 ∧ lastIs (123 :: o) 123 = true) from fun h => b9 h.1)]
    left
    exact ⟨by rw [if_neg bu], rfl⟩
theorem step_rel {p r : St} (h : Rel p r) (c : Int) : (stepP p c = none ∧ stepR r c = none) ∨ ∃ p' r', stepP p c = some p' ∧ stepR r c = some r' ∧ Rel p' r' := by
  obtain ⟨want, o, items⟩ := p
  obtain ⟨want2, o2, items2⟩ := r
  obtain ⟨h1, h2, h3, h4⟩ := h
  simp only at h1 h2 h3 h4
  subst h1 h2
  unfold stepP stepR
  simp only
  by_cases w0 : want = 0
  · rw [if_pos w0, if_pos w0]
    by_cases hc : items < 8 ∧ (c = 116 ∨ c = 104 ∨ up c = true)
    · right
      refine ⟨⟨1, o, items + 1⟩, ⟨1, o2, items + 1⟩, by rw [if_pos hc], by rw [if_pos hc], rfl, rfl, h3, Or.inl ⟨Or.inr rfl, ?_⟩⟩
      rcases h4 with h4 | h4
      · exact h4.2
      · omega
    · left; exact ⟨by rw [if_neg hc], by rw [if_neg hc]⟩
  rw [if_neg w0, if_neg w0]
  by_cases w1 : want = 1
  · rw [if_pos w1, if_pos w1]
    have ho : o = [] := by
      rcases h4 with h4 | h4
      · exact h4.2
      · omega
    by_cases hc : c = 123
    · right
      refine ⟨⟨2, o, items⟩, ⟨2, [123], items⟩, by rw [if_pos hc], by rw [if_pos hc], rfl, rfl, h3, Or.inr ⟨Or.inl rfl, by rw [ho]⟩⟩
    · left; exact ⟨by rw [if_neg hc], by rw [if_neg hc]⟩
  rw [if_neg w1, if_neg w1]
  have h5 : (want = 2 ∨ want = 3 ∨ want = 4) ∧ o2 = 123 :: o := by
    rcases h4 with h4 | h4
    · omega
    · exact h4
  by_cases w3 : want = 3
  · rw [if_pos w3, if_pos w3]
    by_cases hc : lk c = true
    · right; exact ⟨⟨2, o, items⟩, ⟨2, o2, items⟩, by rw [if_pos hc], by rw [if_pos hc], rfl, rfl, h3, Or.inr ⟨Or.inl rfl, h5.2⟩⟩
    · left; exact ⟨by rw [if_neg hc], by rw [if_neg hc]⟩
  rw [if_neg w3, if_neg w3]
  by_cases w4 : want = 4
  · rw [if_pos w4, if_pos w4]
    by_cases hc : cl c = true
    · right; exact ⟨⟨2, o, items⟩, ⟨2, o2, items⟩, by rw [if_pos hc], by rw [if_pos hc], rfl, rfl, h3, Or.inr ⟨Or.inl rfl, h5.2⟩⟩
    · left; exact ⟨by rw [if_neg hc], by rw [if_neg hc]⟩
  rw [if_neg w4, if_neg w4]
  have w2 : want = 2 := by omega
  subst w2
  rw [h5.2]
  rcases body_rel o items h3 c with ⟨e1, e2⟩ | ⟨w, o1, o3, e1, e2, e3, e4⟩
  · left; exact ⟨e1, by rw [e2]⟩
  · right
    refine ⟨⟨w, o1, items⟩, ⟨w, o3, items⟩, e1, by rw [e2], rfl, rfl, e3, ?_⟩
    rcases e4 with ⟨e4, e5⟩ | e4
    · exact Or.inl ⟨Or.inl e4, e5⟩
    · exact Or.inr e4
theorem from_same (l : List UInt8) (i : Nat) (p r : St) (h : Rel p r) : faultFrom l i p = placeFrom l i r := by
  induction l generalizing i p r with
  | nil => simp only [faultFrom, placeFrom, h.1, h.2.1]
  | cons c t ih =>
    simp only [faultFrom, placeFrom]
    rcases step_rel h (bt c) with ⟨e1, e2⟩ | ⟨p', r', e1, e2, h'⟩
    · rw [e1, e2]
    · rw [e1, e2]; exact ih _ _ _ h'
theorem fault_same (l : List UInt8) : fault l = place l := from_same l 0 _ _ ⟨rfl, rfl, by simp, Or.inl ⟨Or.inl rfl, rfl⟩⟩
end Wd
end Go.Proofs.Ytecmfdkhcffpmaa
