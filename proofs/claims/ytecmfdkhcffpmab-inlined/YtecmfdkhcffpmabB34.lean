/- ProgR, ProgS. -/
import Derived.Test.YtecmfdkhcffpmabB19
import Derived.Test.YtecmfdkhcffpmabB33
import Derived.Test.YtecmfdkhcffpmabB18
import Derived.Maps.AppendAt
/- Contracts of the program's machine: a script is played. -/
namespace Go.Proofs.Ytecmfdkhcffpmab
open Go.RowKit
set_option linter.unusedSimpArgs false
set_option linter.unusedVariables false
set_option maxHeartbeats 8000000
open Mc

theorem grown_keepP {w w' : World} {B : Nat} {e : TypeId} {size n : Nat} {v : Value} {xs : List Value} {o : Obj} (ho : w.ownsRow B e size v n xs) (hB : B ≤ w.heap.size) (hg : (w.alloc o).grownBy w' v.ownBlock) : ∀ j, j < B → w'.heap[j]? = w.heap[j]? := fun j hj => by
  rw [hg.block j (by simp; omega) (fun e => by have := (ho.lt j e.symm).1; omega), heap_alloc_old _ _ (by omega)]
theorem own_kq {w w' : World} {b B : Nat} {ai : Option Addr} {e : TypeId} {size : Nat} {v : Value} {n : Nat} {xs : List Value} (h : w.ownsRow B e size v n xs) (hb : b < B) (ha : ∀ g, ai = some ⟨g, 0, none⟩ → g < B) (hk : KP b ai w w') : w'.ownsRow B e size v n xs :=
  own_same h fun g hg hl => hk.same g hl (by omega) (fun e => by have := ha g e; omega)
theorem ret_str {a b : List UInt8} (h : a = b) : Ending.returned (.string (Wd.mkS a)) = .returned (.string (Wd.mkS b)) := by rw [h]
theorem trace_letter (its : List Wd.It) (S : Ma) (c : Nat) (what : Int) : 0 ≤ (command its S 3 c what).1 ∧ (command its S 3 c what).1 ≤ 255 := command_letter its S 3 c what
set_option maxRecDepth 100000 in
theorem play_any (w : World) (b : Nat) (ai : Option Addr) (ci : Nat) (lg : Nat → Nat) (its : List Wd.It) (S : Ma) (n : Nat) (t : ByteArray) (h : PM w b ai ci lg its S) (ho : ItsOK its) (hi : Inv its 3 S) (hfi : Fine its) (hs : Ats its 3 S) (hr : Mc.Rest 3 S) (hn : n ≤ 3) (ht : t.size ≤ 200000) (hsc : scriptB n t.data.toList = true) (hai : ∀ g, ai = some ⟨g, 0, none⟩ → g < w.heap.size) :
    Calls Try.prog 51 #[.pointer (some ⟨b, 0, none⟩), .string t] w fun e w' => e = .returned (.string (Wd.mkS (traceB its 3 S t.data.toList))) ∧ KQ w.heap.size b ai w w' := by
  generalize hT : traceB its 3 S t.data.toList = T
  have HT := hide hT
  have HM := hide h
  have HI := hide hi
  have HO := hide ho
  have HF := hide hfi
  have HS := hide hs
  have HR := hide hr
  have HSC := hide hsc
  have HPB := hide h.pb
  have HAI := hide hai
  clear hT h hi ho hfi hs hr hsc hai
  obtain ⟨i0, hi0, hz0, hz1, hz2⟩ := info_parts Try.infoU8
  go_enter Try.func51, Try.ntmps51
  go_wp2
  have HM1 := hide (HM.out.alloc (.cells #[] 5))
  have HK1 := hide ((KQ.refl w.heap.size b ai w).bel (below_one w (.cells #[] 5)) (Nat.le_refl _))
  have HOW : Hid ((w.alloc (.cells #[] 5)).ownsRow w.heap.size 5 1 (.slice (some ⟨w.heap.size, 0, none⟩) 0 0) 0 []) := hide ⟨rfl, .inr ⟨w.heap.size, 0, #[], rfl, Nat.le_refl _, heap_alloc_last _ _, by simp, Nat.zero_le _, rfl, rfl⟩⟩
  generalize hBB : w.heap.size = B at *
  go_loopw [5, 6] (fun a c wr => ∃ (k : Nat) (acc : List UInt8) (S' : Ma), k ≤ t.size ∧ c = .int .i64 k ∧ acc.length ≤ k ∧ wr.ownsRow B 5 1 a acc.length (Wd.bytesV acc) ∧ PM wr b ai ci lg its S' ∧ Mc.Inv its 3 S' ∧ Ats its 3 S' ∧ Mc.Rest 3 S' ∧ scriptB n (t.data.toList.drop k) = true ∧ T = acc ++ traceB its 3 S' (t.data.toList.drop k) ∧ KQ B b ai w wr ∧ B ≤ wr.heap.size) (fun _ c _ => t.size - (intOf c).toNat)
  case atStart => exact ⟨0, [], S, by omega, rfl, by simp, HOW.out, HM1.out, HI.out, HS.out, HR.out, HSC.out, by rw [← HT.out]; rfl, HK1.out, by simp; omega⟩
  case round =>
    obtain ⟨k, acc, S', hk, rfl, hacc, hown, hm, hinv, hats, hrest, hscr, htr, hkq, hbs⟩ := hrel
    have HOr := hide hown
    have HMr := hide hm
    have HIr := hide hinv
    have HSr := hide hats
    have HRr := hide hrest
    have HSR := hide hscr
    have HTR := hide htr
    have HKr := hide hkq
    clear hown hm hinv hats hrest hscr htr hkq HM1 HK1 HOW HSC
    by_cases hlt : k + 1 < t.size
    · obtain ⟨q1, q2, q3, q4⟩ := script_at hlt HSR.out
      have HQ4 := hide q4
      have hcl := trace_letter its S' (((t[k].toNat : Nat) : Int) - 48).toNat ((t[k + 1].toNat : Nat) : Int)
      have hbo : (0 : Int) ≤ ((t[k + 1].toNat : Nat) : Int) ∧ ((t[k + 1].toNat : Nat) : Int) ≤ 255 := by have := t[k + 1].toNat_lt; omega
      have hba : ((t[k].toNat : Nat) : Int) ≤ 255 := by have := t[k].toNat_lt; omega
      have hcast : ((((t[k].toNat : Nat) : Int) - 48).toNat : Int) = ((t[k].toNat : Nat) : Int) - 48 := by omega
      have hc3 : (((t[k].toNat : Nat) : Int) - 48).toNat < 3 := by omega
      have HIN := hide (HIr.out.command HO.out _ hc3 ((t[k + 1].toNat : Nat) : Int))
      have HSN := hide (HSr.out.command HF.out HIr.out _ hc3 ((t[k + 1].toNat : Nat) : Int))
      have HRN := hide (HRr.out.command (its := its) 3 _ hc3 ((t[k + 1].toNat : Nat) : Int))
      have AC := hide (fun W (hW : PM W b ai ci lg its S') => do_any W b ai ci lg its S' (((t[k].toNat : Nat) : Int) - 48).toNat ((t[k + 1].toNat : Nat) : Int) hW HO.out HIr.out HF.out HSr.out HRr.out hc3 q3)
      simp only [hcast] at AC
      have HTC := hide (traceB_cons its 3 S' t k hlt)
      have hw64 : IntKind.i64.wrap (((t[k].toNat : Nat) : Int) - 48) = ((t[k].toNat : Nat) : Int) - 48 := by rw [IntKind.wrap_i64]; omega
      have hw0 : IntKind.i64.wrap ((t[k].toNat : Nat) : Int) = ((t[k].toNat : Nat) : Int) := by rw [IntKind.wrap_i64]; omega
      have hwk : IntKind.i64.wrap ((k : Int) + 1) = (k : Int) + 1 := by rw [IntKind.wrap_i64]; omega
      have hk1 : (0 : Int) ≤ (k : Int) + 1 := by omega
      have hk2 : (k : Int) + 1 < (t.size : Int) := by omega
      have hk3 : (k : Int) < (t.size : Int) := by omega
      clear hcast q4
      generalize command its S' 3 (((t[k].toNat : Nat) : Int) - 48).toNat ((t[k + 1].toNat : Nat) : Int) = R at *
      obtain ⟨L, S2⟩ := R
      simp only at hcl HIN HSN HRN HTC AC
      go_wp2_with fail
      go_region_held3 (fun _ => True) (trivial) (first | (go_at_call 67; refine (AC.out _ HMr.out.drew).mono ?_; rintro e w4 ⟨rfl, hm4, hk4⟩))
      all_goals (
        have HM4 := hide hm4
        have HK4 := hide (((KP.refl b ai wr).drew).trans hk4)
        have HO4 := hide (own_kq HOr.out HPB.out.b HAI.out HK4.out)
        have HKK := hide (HKr.out.kp HK4.out hbs)
        have hs4 : B ≤ w4.heap.size := Nat.le_trans hbs HK4.out.below.size
        clear hm4 hk4 AC
        have AB := hide (fun W => isLast_any L W hcl.1 hcl.2)
        cases hbad : bad L
        · rw [hbad] at AB
          have HTN : Hid (T = (acc ++ [u8 L]) ++ traceB its 3 S2 (t.data.toList.drop (k + 2))) := by apply hide; rw [HTR.out, HTC.out, hbad]; simp
          go_wp2_with (first | (at_builtin; refine wpList_append_own _ rfl _ _ 30 rfl B 5 i0 (.int .u8 0) 1 1 Try.underlying30 hi0 hz0 hz1 hz2 rfl (by decide) _ _ _ rfl (HO4.out.alloc _) ⟨_, 0, none⟩ 1 1 [.int .u8 L] rfl rfl (cell_one_new _ _ _) (fun x hx => by simp at hx; subst hx; rfl) (by unfold maxLen; omega) (by omega) (by simp; omega) ?_; intro v' w5 hown' hgrow5 hnil5; have HG := hide hgrow5; have HW := hide (own_snoc hcl.1 hcl.2 hown'); have hcv := conv_own HW.out; clear hgrow5 hown' hnil5) | (go_at_call 68; refine (AB.out _).mono ?_; rintro e w' ⟨rfl, hww⟩; obtain rfl := hww.symm; clear hww))
          have HU := hide (grown_keepP HO4.out hs4 HG.out)
          refine ⟨⟨k + 2, acc ++ [u8 L], S2, by omega, by go_num, by simp; omega, HW.out, HM4.out.keepB HPB.out HU.out, HIN.out, HSN.out, HRN.out, HQ4.out, HTN.out, HKK.out.trans ⟨(grown_min HG.out HO4.out).mono (Nat.zero_le _), fun j hj _ _ => HU.out j hj⟩, by have := HG.out.size; simp at this; omega⟩, by simp [intOf]; omega⟩
        · rw [hbad] at AB
          have HTN : Hid (T = acc ++ [u8 L]) := by apply hide; rw [HTR.out, HTC.out, hbad]; simp
          go_wp2_with (first | (at_builtin; refine wpList_append_own _ rfl _ _ 30 rfl B 5 i0 (.int .u8 0) 1 1 Try.underlying30 hi0 hz0 hz1 hz2 rfl (by decide) _ _ _ rfl (HO4.out.alloc _) ⟨_, 0, none⟩ 1 1 [.int .u8 L] rfl rfl (cell_one_new _ _ _) (fun x hx => by simp at hx; subst hx; rfl) (by unfold maxLen; omega) (by omega) (by simp; omega) ?_; intro v' w5 hown' hgrow5 hnil5; have HG := hide hgrow5; have HW := hide (own_snoc hcl.1 hcl.2 hown'); have hcv := conv_own HW.out; clear hgrow5 hown' hnil5) | (go_at_call 68; refine (AB.out _).mono ?_; rintro e w' ⟨rfl, hww⟩; obtain rfl := hww.symm; clear hww))
          go_ret
          have HU := hide (grown_keepP HO4.out hs4 HG.out)
          exact ⟨ret_str HTN.out.symm, by rw [hBB]; exact HKK.out.trans ⟨(grown_min HG.out HO4.out).mono (Nat.zero_le _), fun j hj _ _ => HU.out j hj⟩⟩)
    · have hcv := conv_own HOr.out
      have HTN : Hid (T = acc) := by apply hide; rw [HTR.out, traceB_end its 3 S' t k hlt]; simp
      go_wp2
      go_ret
      exact ⟨ret_str HTN.out.symm, by rw [hBB]; exact HKr.out⟩
end Go.Proofs.Ytecmfdkhcffpmab
/- Contracts of the program's machine: it is built. -/
namespace Go.Proofs.Ytecmfdkhcffpmab
open Go.RowKit
set_option linter.unusedSimpArgs false
set_option linter.unusedVariables false
set_option maxHeartbeats 8000000
open Mc

/-- A machine without frames, as it lies in memory. -/
def mA (v : Value) : Array Value := #[v, .bool false, .int .i64 0, .bool false, .string ⟨#[]⟩, .slice none 0 0, .int .i64 0, .bool false, .bool false, .bool false, .bool false, .bool false, .bool false, .bool false, .bool false, .int .i64 0, .bool false, .string ⟨#[]⟩, .slice none 0 0, .int .i64 0, .bool false, .bool false, .bool false, .bool false, .bool false, .bool false, .bool false, .bool false, .int .i64 0, .bool false, .string ⟨#[]⟩, .slice none 0 0, .int .i64 0, .bool false, .bool false, .bool false, .bool false, .bool false, .bool false, .bool false, .bool false, .int .i64 0, .bool false, .string ⟨#[]⟩, .slice none 0 0, .int .i64 0, .bool false, .bool false, .bool false, .bool false, .bool false, .bool false, .bool false, .bool false, .int .i64 0, .bool false, .string ⟨#[]⟩, .slice none 0 0, .int .i64 0, .bool false, .bool false, .bool false, .bool false, .bool false, .bool false, .bool false, .bool false, .int .i64 0, .bool false, .string ⟨#[]⟩, .slice none 0 0, .int .i64 0, .bool false, .bool false, .bool false, .bool false, .bool false, .bool false, .bool false]
theorem mA_one (ao : Option Addr) (n c : Nat) : (mA (.slice ao n c)).all (·.oneCell') = true := by simp [mA, Value.oneCell']
theorem Try.iMach : (Try.prog.info? 107).map (·.size) = some 79 := by kernel_rfl
theorem mA_size (v : Value) : (mA v).size = 79 := rfl
theorem Try.iMachA (v : Value) : (Try.prog.info? 107).map (·.size) = some (mA v).size := by rw [mA_size]; exact Try.iMach
theorem run_allocM (ρ : Operand → Value) (d : Option Tmp) (ty : TypeId) (ps : String) (af : Array Edge) (g : Option (Nat × Bool)) (w : World) :
    (execOp ρ { dst := d, op := .alloc 107, type := ty, pos := ps, after := af, guard := g }).run Try.prog w = .ok (.value (.pointer (some ⟨w.heap.size, 0, none⟩))) (w.alloc (.cells (mA (.slice none 0 0)) 107)) := by kernel_rfl
theorem run_buildM (ρ : Operand → Value) (d : Option Tmp) (ty : TypeId) (ps : String) (af : Array Edge) (g : Option (Nat × Bool)) (w : World) :
    (execOp ρ { dst := d, op := .build 107 #[], type := ty, pos := ps, after := af, guard := g }).run Try.prog w = .ok (.value (.agg (mA (.slice none 0 0)))) w := by kernel_rfl
theorem wpList_allocM {ops : Array Oper} {rest : List Oper} {o : Oper} {a : Act} {w : World} {Q : Exit → Act → World → Prop} (hg : o.guard = none) (ho : o.op = .alloc 107)
    (h : wpList Try.prog ops Q rest (a.put o.dst (.pointer (some ⟨w.heap.size, 0, none⟩))) (w.alloc (.cells (mA (.slice none 0 0)) 107))) : wpList Try.prog ops Q (o :: rest) a w := by
  obtain ⟨d, op, ty, ps, af, g⟩ := o
  simp only at ho hg
  subst ho
  exact wpList_runTo' hg _ _ (run_allocM _ _ _ _ _ _ _) h
theorem wpList_buildM {ops : Array Oper} {rest : List Oper} {o : Oper} {a : Act} {w : World} {Q : Exit → Act → World → Prop} (hg : o.guard = none) (ho : o.op = .build 107 #[])
    (h : wpList Try.prog ops Q rest (a.put o.dst (.agg (mA (.slice none 0 0)))) w) : wpList Try.prog ops Q (o :: rest) a w := by
  obtain ⟨d, op, ty, ps, af, g⟩ := o
  simp only at ho hg
  subst ho
  exact wpList_runTo' hg _ _ (run_buildM _ _ _ _ _ _ _) h
def itV (its : List Wd.It) (lg : Nat → Nat) (k : Nat) : List Value := (List.range (k * 6)).map (piF its lg (begin_ its))
theorem itV_len (its : List Wd.It) (lg : Nat → Nat) (k : Nat) : (itV its lg k).length = k * 6 := by simp [itV]
theorem itV_at (its : List Wd.It) (lg : Nat → Nat) (k i : Nat) (h : i < k * 6) : (itV its lg k)[i]? = some (piF its lg (begin_ its) i) := by simp [itV, h]
theorem itV_succ (its : List Wd.It) (lg : Nat → Nat) (k g : Nat) : itV its lg k ++ [.bool (isH its k), .bool (isH its k), .string (Wd.mkS (bodyOf its k)), .slice (some ⟨g, 0, none⟩) (bodyOf its k).length (bodyOf its k).length, .bool (!isH its k), .int .i64 0] = itV its (fun i => if i = k then g else lg i) (k + 1) := by
  refine List.ext_getElem? fun i => ?_
  by_cases h : i < k * 6
  · rw [List.getElem?_append_left (by rw [itV_len]; exact h), itV_at _ _ _ _ h, itV_at _ _ _ _ (by omega)]
    unfold piF
    have : i / 6 ≠ k := by omega
    simp only [this, if_false]
  · rw [List.getElem?_append_right (by rw [itV_len]; omega), itV_len]
    obtain ⟨j, hj⟩ : ∃ j, i = k * 6 + j := ⟨i - k * 6, by omega⟩
    subst hj
    rw [Nat.add_sub_cancel_left]
    by_cases h6 : j < 6
    · rw [itV_at _ _ _ _ (by omega)]
      have hp := piF_at its (fun i => if i = k then g else lg i) (begin_ its) k
      rcases j with _ | _ | _ | _ | _ | _ | j
      · rw [Nat.add_zero, hp.1]; rfl
      · rw [hp.2.1]; rfl
      · rw [hp.2.2.1]; rfl
      · rw [hp.2.2.2.1]; simp
      · rw [hp.2.2.2.2.1]; rfl
      · rw [hp.2.2.2.2.2]; rfl
      · omega
    · rw [List.getElem?_eq_none (by simp; omega), List.getElem?_eq_none (by rw [itV_len]; omega)]
/-- The items so far, in memory. -/
structure BM (w : World) (N : Nat) (its : List Wd.It) (k : Nat) (v : Value) (lg : Nat → Nat) : Prop where
  own : w.ownsRow N 135 6 v k (itV its lg k)
  lead : ∀ i, i < k → Blk w (lg i) (bodyOf its i).length (ldF its i) ∧ N ≤ lg i ∧ v.ownBlock ≠ some (lg i)
theorem Try.infoItem : (Try.prog.info? 135).map (fun i => (i.zero, i.size, i.bytes)) = some (some (.agg #[.bool false, .bool false, .string ByteArray.empty, .slice none 0 0, .bool false, .int .i64 0]), 6, 72) := by kernel_rfl
set_option maxRecDepth 100000 in
theorem build_any (w : World) (its : List Wd.It) (a0 : Option Addr) (c0 : Nat) (hl : its.length ≤ 8) (ho : ItsOK its) (hb3 : ∀ i, i < its.length → (bodyOf its i).length ≤ 1000) (hc : its.length ≤ c0 ∧ c0 ≤ maxLen) (hit : 0 < its.length → ∃ g, a0 = some ⟨g, 0, none⟩ ∧ Blk w g (its.length * 2) (itF its)) :
    Calls Try.prog 50 #[.slice a0 its.length c0] w fun e w' => ∃ v lg, e = .returned (.agg (mA v)) ∧ BM w' (w.heap.size + 2) its its.length v lg ∧ Below w.heap.size w w' := by
  have HIT := hide hit
  have HB3 := hide hb3
  unfold maxLen at hc
  clear hit hb3 ho
  obtain ⟨i0, hi0, hz0, hz1, hz2⟩ := info_parts Try.infoItem
  go_enter Try.func50, Try.ntmps50
  go_wp2_with (first | (refine wpList_allocM rfl rfl ?_) | (refine wpList_buildM rfl rfl ?_) | (refine wpList_store_row rfl 107 _ _ rfl _ (mA (.slice none 0 0)) rfl rfl 107 (mA (.slice none 0 0)) ?_ (Try.iMachA _) rfl (mA_one _ _ _) ?_; (exact heap_alloc_last _ _)))
  have s0 := hide ((Row.two w (mA (.slice none 0 0)) (mA (.slice none 0 0)) 107 107).1.same (setRow_other _ (w.heap.size + 1) w.heap.size (mA (.slice none 0 0)) (by omega)))
  have s1 := hide ((Row.two w (mA (.slice none 0 0)) (mA (.slice none 0 0)) 107 107).2.setRow (mA (.slice none 0 0)))
  have s2 := hide (below_setRow (below_two w (.cells (mA (.slice none 0 0)) 107) (.cells (mA (.slice none 0 0)) 107)) (show w.heap.size ≤ w.heap.size + 1 by omega) (mA (.slice none 0 0)))
  generalize ((w.alloc (.cells (mA (.slice none 0 0)) 107)).alloc (.cells (mA (.slice none 0 0)) 107)).setRow (w.heap.size + 1) (mA (.slice none 0 0)) = W at *
  go_loopw [10] (fun a wr => ∃ (k : Nat) (v : Value) (lg : Nat → Nat), k ≤ its.length ∧ a = .int .i64 k ∧ Row wr w.heap.size (mA (.slice none 0 0)) 107 ∧ Row wr (w.heap.size + 1) (mA v) 107 ∧ BM wr (w.heap.size + 2) its k v lg ∧ Below w.heap.size w wr ∧ w.heap.size + 2 ≤ wr.heap.size) (fun a _ => its.length - (intOf a).toNat)
  case atStart => exact ⟨0, .slice none 0 0, fun _ => 0, by omega, rfl, s0.out, s1.out, ⟨World.ownsRow_nil _ _ _ _, fun i hi => by omega⟩, s2.out, by have := s1.out.lt; omega⟩
  case round =>
    clear s0 s1 s2
    obtain ⟨k, v, lg, hk, rfl, h0, h1, hbm, hbe, hsz⟩ := hrel
    have HR0 := hide h0
    have HR1 := hide h1
    have HBM := hide hbm
    have HBE := hide hbe
    clear h0 h1 hbm hbe
    by_cases hlt : k < its.length
    · obtain ⟨g0, hg0, hbk⟩ := HIT.out (by omega)
      subst hg0
      have hgl := hbk.lt
      have hbk' := hbk.same (HBE.out.block g0 hgl)
      have c0 : wr.cell? ⟨g0, k * 2, none⟩ = some (.bool (isH its k)) := by rw [hbk'.cell _ (by omega)]; unfold itF; rw [if_pos (by omega), show k * 2 / 2 = k by omega]
      have c1 : wr.cell? ⟨g0, k * 2 + 1, none⟩ = some (.string (Wd.mkS (bodyOf its k))) := by rw [hbk'.cell _ (by omega)]; unfold itF; rw [if_neg (by omega), show (k * 2 + 1) / 2 = k by omega]
      have hbl := HB3.out k hlt
      have AO := hide (fun W => of_any (isH its k) (Wd.mkS (bodyOf its k)) W (by rw [Wd.mkS_size]; exact hbl))
      simp only [Wd.mkS_size, Wd.mkS_list] at AO
      clear hbk hbk'
      have hk0 : (0 : Int) ≤ (k : Int) := by omega
      go_wp2_with fail
      have HI1 := hide (Row.new wr #[.bool (isH its k), .string (Wd.mkS (bodyOf its k))] 69)
      have HB1 := hide (below_one wr (.cells #[.bool (isH its k), .string (Wd.mkS (bodyOf its k))] 69))
      generalize wr.alloc (.cells #[.bool (isH its k), .string (Wd.mkS (bodyOf its k))] 69) = w1 at *
      go_at_call 66
      refine (AO.out _).mono ?_
      rintro e w2 ⟨g, rfl, hg, hblk, hb2⟩
      have HI2 := hide (HI1.out.below hb2)
      have HB2 := hide (below_go HB1.out hb2)
      have HLD := hide hblk
      have hgw : wr.heap.size < g := Nat.lt_of_lt_of_le HI1.out.lt hg
      have x0 := HI2.out.cell 0 (v := .bool (isH its k)) rfl
      have HR12 := hide (HR1.out.below HB2.out)
      have HR02 := hide (HR0.out.below HB2.out)
      obtain ⟨ao, cc, hv⟩ := own_v HBM.out.own
      have y0 := HR12.out.cell 0 (v := v) rfl
      have HOW := hide (own_same HBM.out.own (fun j hj hl => HB2.out.block j hl))
      have HLT := hide HBM.out.own.lt
      have hgl2 : g < w2.heap.size := hblk.lt
      clear hblk hb2 c0 c1
      have HLT := hide HBM.out.own.lt
      subst hv
      go_wp2_with (first | (refine wpList_store_row rfl 97 _ _ rfl w2.heap.size #[.bool (isH its k), .string (Wd.mkS (bodyOf its k)), .slice (some ⟨g, 0, none⟩) (bodyOf its k).length (bodyOf its k).length] rfl rfl 97 #[.bool false, .string ⟨#[]⟩, .slice none 0 0] ?_ Try.iCode rfl (by simp [Value.oneCell']) ?_; (exact (Row.new w2 #[.bool false, .string ⟨#[]⟩, .slice none 0 0] 97).raw); rw [World.setRow_alloc_new]; have HC3 := hide (Row.new w2 #[.bool (isH its k), .string (Wd.mkS (bodyOf its k)), .slice (some ⟨g, 0, none⟩) (bodyOf its k).length (bodyOf its k).length] 97); have HB3 := hide (below_one w2 (.cells #[.bool (isH its k), .string (Wd.mkS (bodyOf its k)), .slice (some ⟨g, 0, none⟩) (bodyOf its k).length (bodyOf its k).length] 97)); have HR13 := hide (HR12.out.alloc (.cells #[.bool (isH its k), .string (Wd.mkS (bodyOf its k)), .slice (some ⟨g, 0, none⟩) (bodyOf its k).length (bodyOf its k).length] 97)); have HR03 := hide (HR02.out.alloc (.cells #[.bool (isH its k), .string (Wd.mkS (bodyOf its k)), .slice (some ⟨g, 0, none⟩) (bodyOf its k).length (bodyOf its k).length] 97)); have HI3 := hide (HI2.out.alloc (.cells #[.bool (isH its k), .string (Wd.mkS (bodyOf its k)), .slice (some ⟨g, 0, none⟩) (bodyOf its k).length (bodyOf its k).length] 97)); have HOW3 := hide (HOW.out.alloc (.cells #[.bool (isH its k), .string (Wd.mkS (bodyOf its k)), .slice (some ⟨g, 0, none⟩) (bodyOf its k).length (bodyOf its k).length] 97)); generalize w2.alloc (.cells #[.bool (isH its k), .string (Wd.mkS (bodyOf its k)), .slice (some ⟨g, 0, none⟩) (bodyOf its k).length (bodyOf its k).length] 97) = w3 at *; have y3 := HR13.out.cell 0 (v := .slice ao k cc) rfl; have x3 := HI3.out.cell 0 (v := .bool (isH its k)) rfl) | (refine wpList_load_row rfl 97 _ rfl _ rfl 97 #[.bool (isH its k), .string (Wd.mkS (bodyOf its k)), .slice (some ⟨g, 0, none⟩) (bodyOf its k).length (bodyOf its k).length] (0, 0) _ ?_ Try.underlying97 rfl Try.iCode ?_; (exact HC3.out.raw)) | (at_builtin; refine wpList_append_own_at _ rfl _ _ 95 rfl (w.heap.size + 2) 135 i0 _ 6 72 Try.underlying95 hi0 hz0 hz1 hz2 rfl (by decide) _ k (itV its lg k) rfl ?_ ⟨_, 0, none⟩ 1 1 [.bool (isH its k), .bool (isH its k), .string (Wd.mkS (bodyOf its k)), .slice (some ⟨g, 0, none⟩) (bodyOf its k).length (bodyOf its k).length, .bool (!isH its k), .int .i64 0] rfl rfl ?_ ?_ ?_ ?_ ?_ ?_; (exact HOW3.out.alloc _); (exact newsL _ _ _); (intro x hx; simp at hx; rcases hx with rfl | rfl | rfl | rfl | rfl | rfl <;> rfl); (unfold maxLen; omega); (omega); (have := HC3.out.lt; simp; omega); intro v' w5 hown' hgrow5 hnil5 hat5; obtain ⟨ao', cc', hv'⟩ := own_v hown'; subst hv'; have HG5 := hide hgrow5; have HO5 := hide hown'; have HA5 := hide hat5; have hs3 : w2.heap.size < w3.heap.size := HC3.out.lt; have hs2 : wr.heap.size < w2.heap.size := HI2.out.lt; have HW5 := hide (grown_oth hgrow5); have HR15 := hide (HR13.out.same (HW5.out _ (by omega) (fun e => by have := HLT.out _ e; omega))); have HR05 := hide (HR03.out.same (HW5.out _ (by omega) (fun e => by have := HLT.out _ e; omega))); have y5 := HR15.out.cell 0 (v := .slice ao k cc) rfl; have f5 := HR15.out.frozen 0; clear hgrow5 hown' hat5 hnil5))
      go_round
      case measure => simp [intOf]; omega
      case rel =>
        refine ⟨k + 1, .slice ao' (k + 1) cc', fun i => if i = k then g else lg i, by omega, by go_num, HR05.out.setO (by omega) 0 _, ?_, ⟨?_, fun i hi => ?_⟩, ?_, ?_⟩
        · have := HR15.out.set 0 (.slice ao' (k + 1) cc')
          simpa [mA] using this
        · have := own_set HO5.out ⟨w.heap.size + 1, 0, none⟩ (by show w.heap.size + 1 < w.heap.size + 2; omega) (.slice ao' (k + 1) cc')
          rwa [itV_succ] at this
        · have hnew : ∀ j, j < w2.heap.size → (Value.slice ao k cc).ownBlock ≠ some j → (Value.slice ao' (k + 1) cc').ownBlock ≠ some j := fun j hj hne e => by
            rcases HA5.out with e1 | e1
            · exact hne (e1 ▸ e)
            · rw [e1] at e; simp at e; omega
          by_cases e : i = k
          · subst e
            simp only [if_true]
            have hne : (Value.slice ao i cc).ownBlock ≠ some g := fun e => by have := HLT.out _ e; omega
            refine ⟨?_, by omega, hnew g hgl2 hne⟩
            exact ((HLD.out.alloc3 HB3.out).same (HW5.out g (by omega) hne)).setO (by omega) 0 _
          · simp only [e, if_false]
            obtain ⟨b1, b2, b3⟩ := HBM.out.lead i (by omega)
            have hb1 := b1.lt
            refine ⟨?_, b2, hnew _ (by omega) b3⟩
            exact (((b1.below HB2.out).alloc3 HB3.out).same (HW5.out _ (by omega) b3)).setO (by omega) 0 _
        · refine (((HBE.out.trans (HB2.out.mono (by omega))).trans (HB3.out.mono (by omega))).trans ?_).setCell (p := ⟨w.heap.size + 1, 0, none⟩) (show w.heap.size ≤ w.heap.size + 1 by omega) _
          exact ((Below.refl _ _).alloc (by omega) _).grown HG5.out (by simp; omega) (fun q hq => by have := HLT.out q hq; omega)
        · have := HG5.out.size
          simp at this ⊢
          omega
    · have e : k = its.length := by omega
      subst e
      obtain ⟨ao, cc, hv⟩ := own_v HBM.out.own
      subst hv
      go_wp2_with (first | (refine wpList_load_row rfl 107 _ rfl _ rfl 107 (mA (.slice ao its.length cc)) (0, 0) _ ?_ Try.underlying107 rfl (Try.iMachA _) ?_; (exact HR1.out.raw)) | (refine wpList_store_row rfl 107 _ _ rfl (w.heap.size) (mA (.slice ao its.length cc)) rfl rfl 107 (mA (.slice none 0 0)) ?_ (Try.iMachA _) rfl (mA_one _ _ _) ?_; (exact HR0.out.raw)))
      refine bodyPost_ret (v := .agg (mA (.slice ao its.length cc))) (results_cell_row Try.results50 _ _ w.heap.size 107 _ (0, 0) _ rfl (HR0.out.setRow _).raw Try.underlying107 rfl (Try.iMachA _)) rfl ⟨_, lg, rfl, ⟨?_, fun i hi => ?_⟩, below_setRow HBE.out (Nat.le_refl _) _⟩
      · exact own_same HBM.out.own (fun j hj hl => setRow_other _ _ _ _ (by omega))
      · obtain ⟨b1, b2, b3⟩ := HBM.out.lead i hi
        exact ⟨b1.same (setRow_other _ _ _ _ (by omega)), b2, b3⟩
end Go.Proofs.Ytecmfdkhcffpmab
