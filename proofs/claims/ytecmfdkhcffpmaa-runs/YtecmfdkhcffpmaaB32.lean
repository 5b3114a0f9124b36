/- RefK, MacR, MacS. -/
import Derived.Test.YtecmfdkhcffpmaaB28
import Derived.Test.YtecmfdkhcffpmaaB10
import Derived.Test.YtecmfdkhcffpmaaB31
import Derived.Test.YtecmfdkhcffpmaaB11
import Derived.Test.YtecmfdkhcffpmaaB29
import Derived.Laws.BytesArg
import Derived.Laws.IdiomStrings
/- Contract of the document's 'Unfold'. -/
namespace Go.Proofs.Ytecmfdkhcffpmaa
open Go.RowKit
set_option linter.unusedSimpArgs false
set_option linter.unusedVariables false
set_option maxHeartbeats 800000

theorem refUnfold_no (s : ByteArray) (w : World) (hs : s.size ≤ maxLen) (hne : (Wd.checkR s.data.toList).1 ≠ 0) :
    Calls Try.prog 16 #[.string s] w fun e w' => e = .returned (.tuple #[.slice none 0 0, .int .i64 (Wd.checkR s.data.toList).1]) ∧ Below w.heap.size w w' := by
  have HX := hide (checkR_any s w hs)
  have hn : ((Wd.checkR s.data.toList).1 != 0) = true := by rw [bne_iff_ne]; exact hne
  clear hne
  generalize (Wd.checkR s.data.toList).1 = a at *
  generalize (Wd.checkR s.data.toList).2 = b at *
  go_enter Try.func16, Try.ntmps16
  go_wp2_with (go_at_call 15; refine HX.out.mono ?_; rintro e w' ⟨rfl, hb⟩)
  go_ret2
  exact ⟨rfl, hb⟩

set_option maxRecDepth 100000 in
set_option maxHeartbeats 2000000 in
theorem refUnfold_ok (s : ByteArray) (w : World) (hs : s.size ≤ 240) (hok : (Wd.checkR s.data.toList).1 = 0) (hL : ∀ i ∈ Wd.starts s.data.toList, ∀ p, p ≤ 8 → (Wd.passN s.data.toList (Wd.sizesN s.data.toList 8) (Wd.body s.data.toList i) p).length ≤ 100000) :
    Calls Try.prog 16 #[.string s] w fun e w' => ∃ v, e = .returned (.tuple #[v, .int .i64 0]) ∧ w'.ownsRow w.heap.size 31 2 v (Wd.unfoldR s.data.toList).length (Wd.itsV (Wd.unfoldR s.data.toList)) ∧ Below w.heap.size w w' := by
  have HX := checkR_any s w (by unfold maxLen; omega)
  rw [hok] at HX
  have HXX := hide HX
  have HL := hide hL
  clear HX hL hok
  generalize (Wd.checkR s.data.toList).2 = b at *
  obtain ⟨i0, hi, hz0, hz1, hz2⟩ := info_parts Try.info31
  have HUR : Hid (Wd.unfoldR s.data.toList = (Wd.starts s.data.toList).map (Wd.itemR s.data.toList)) := rfl
  go_enter Try.func16, Try.ntmps16
  go_wp2_with fail
  refine HXX.out.mono ?_
  rintro e w3 ⟨rfl, hb3⟩
  have HB3 := hide hb3
  clear hb3 HXX
  go_wp2_with fail
  refine (sizes_any s _ (by omega)).mono ?_
  rintro e w4 ⟨rfl, hb4⟩
  have HB4 := hide (HB3.out.trans (hb4.mono HB3.out.size))
  clear hb4 HB3
  go_wp2_with (refine wpList_store_row rfl 75 _ _ rfl _ _ rfl rfl 75 _ (heap_alloc_last _ _) Try.i33 rfl (Wd.arr8_one _) ?_)
  rw [World.setRow_alloc_new]
  go_wp2_with fail
  have a1 := hide (heap_alloc_last w4 (.cells (Wd.arr8 (Wd.sizesN s.data.toList 8)) 75))
  have a2 : Hid (Below w.heap.size w (w4.alloc (.cells (Wd.arr8 (Wd.sizesN s.data.toList 8)) 75))) := HB4.out.alloc HB4.out.size _
  generalize w4.alloc (.cells (Wd.arr8 (Wd.sizesN s.data.toList 8)) 75) = W at *
  generalize w4.heap.size = N at *
  clear HB4
  refine (starts_any s _ (by omega)).mono ?_
  rintro e w5 ⟨v, rfl, hown, hb5⟩
  obtain ⟨ao, cap, rfl, hnc, hcap, hlen, hcell⟩ := own_shape hown
  have A1 := hide (below_row hb5 a1.out)
  have A2 := hide (a2.out.trans (hb5.mono a2.out.size))
  have HCL := hide hcell
  have hln := Wd.startsTo_len s.data.toList s.data.toList.length
  rw [show Wd.startsTo s.data.toList s.data.toList.length = Wd.starts s.data.toList from rfl, Wd.len_str] at hln
  unfold maxLen at hcap
  clear a1 a2 hown hb5 hcell hlen
  generalize hn : (Wd.starts s.data.toList).length = n at *
  have HN := hide hn
  clear hn
  go_wp2_with fail
  go_loopw [8, 9] (fun a b wr => ∃ k : Nat, k ≤ n ∧ b = .int .i64 k ∧ Below w5.heap.size w5 wr ∧ wr.ownsRow w5.heap.size 31 2 a ((Wd.unfoldR s.data.toList).take k).length (Wd.itsV ((Wd.unfoldR s.data.toList).take k))) (fun _ b _ => n - (intOf b).toNat)
  case atStart => exact ⟨0, by omega, rfl, Below.refl _ _, World.ownsRow_nil _ _ _ _⟩
  case round =>
    obtain ⟨k, hk, rfl, hbe, hO⟩ := hrel
    have HB := hide hbe
    have HO := hide hO
    clear hbe hO
    by_cases hkl : k < n
    · have hget : (Wd.starts s.data.toList)[k]? = some ((Wd.starts s.data.toList).getD k 0) := by
        rw [List.getD_eq_getElem?_getD, List.getElem?_eq_getElem (by rw [HN.out]; exact hkl)]; rfl
      obtain ⟨g, rfl, hc1, hg1, hg2⟩ := HCL.out k (.int .i64 (((Wd.starts s.data.toList).getD k 0 : Nat) : Int)) (by simp only [Wd.intsV, List.getElem?_map, hget]; rfl)
      have hmem := List.mem_of_getElem? hget
      have hst : (Wd.starts s.data.toList).getD k 0 + 2 ≤ s.size := by
        have := Wd.starts_mem hmem
        rw [Wd.len_str] at this; omega
      have HLx := hide (HL.out _ hmem)
      have HTK : Hid ((Wd.unfoldR s.data.toList).take (k + 1) = (Wd.unfoldR s.data.toList).take k ++ [Wd.itemR s.data.toList ((Wd.starts s.data.toList).getD k 0)]) := by
        apply hide
        rw [List.take_add_one, HUR.out, List.getElem?_map, hget]; rfl
      have htl : ((Wd.unfoldR s.data.toList).take k).length ≤ 240 := by
        rw [HUR.out]; simp; omega
      generalize hx : (Wd.starts s.data.toList).getD k 0 = x at *
      have c1 := (HB.out.cell (p := ⟨g, k, none⟩) hg2).trans hc1
      have HO1 := hide (below_row HB.out A1.out)
      have hxs : x < s.size := by omega
      have HAT := hide (Wd.at_str s x hxs)
      have b0 := Wd.at_lo s.data.toList x
      have b1 := Wd.at_hi s.data.toList x
      rw [← HAT.out] at b0 b1
      clear hx hc1 hget hmem
      go_wp2_with fail
      refine (body_any s x _ (by omega) hst).mono ?_
      rintro e w6 ⟨t, rfl, ht, hts, rfl⟩
      have HT := hide ht
      clear ht
      go_wp2_with (refine wpList_load_row rfl 75 _ rfl _ rfl 75 _ (0, 0) _ HO1.out Try.underlying75 rfl Try.i33 ?_)
      refine (unfolded_any s t _ _ (by omega) (Wd.sizesN_bd _ 8) (Wd.sizesN_head _) (by rw [HT.out]; exact HLx.out)).mono ?_
      rintro e w7 ⟨u, rfl, hu, hb7⟩
      have HU := hide hu
      have HB7 := hide (HB.out.trans (hb7.mono HB.out.size))
      have c2 := (HB7.out.cell (p := ⟨g, k, none⟩) hg2).trans (((HB.out.cell (p := ⟨g, k, none⟩) hg2).symm.trans c1))
      have HO7 := hide (own_below HO.out hb7)
      have c2' : ∀ o, (w7.alloc o).cell? ⟨g, k, none⟩ = some (.int .i64 (x : Int)) := fun o => by rw [World.cell?_alloc_past _ _ _ (World.block_lt_of_cell? w7 _ c2)]; exact c2
      clear hu hb7 c1
      go_wp2_with (at_builtin; refine wpList_append_own _ rfl _ _ 26 rfl w5.heap.size 31 i0 (.agg #[.bool false, .string ByteArray.empty]) 2 24 Try.underlying26 hi hz0 hz1 hz2 rfl (by decide) _ _ _ rfl (HO7.out.alloc _) ⟨_, 0, none⟩ 1 1 [.bool (((s[x].toNat : Nat) : Int) == 104), .string u] rfl rfl (cell_two_new _ _ _ _) (fun y hy => by simp at hy; rcases hy with rfl | rfl <;> rfl) (by unfold maxLen; omega) (by omega) (by have := HB7.out.size; simp; omega) ?_; intro v' w8 hown' hgrow3 hnil3; have HG := hide hgrow3; have HW := hide hown'; clear hgrow3 hown' hnil3)
      refine ⟨⟨k + 1, by omega, by go_num, (HB7.out.alloc HB7.out.size _).grown HG.out (by have := HB7.out.size; simp; omega) (fun q hq => (HO7.out.lt q hq).1), ?_⟩, by simp [intOf]; omega⟩
      rw [HTK.out, Wd.itsV_snoc, List.length_append]
      have e1 : Wd.itV (Wd.itemR s.data.toList x) = [.bool (((s[x].toNat : Nat) : Int) == 104), .string u] := by
        simp only [Wd.itV, Wd.itemR, ← HAT.out, ← HT.out, ← HU.out, Wd.mkS_of]
      rw [e1]
      exact HW.out
    · go_wp2_with fail
      go_ret2
      refine ⟨_, rfl, ?_, A2.out.trans (HB.out.mono A2.out.size)⟩
      obtain rfl : k = n := by omega
      have e : (Wd.unfoldR s.data.toList).take k = Wd.unfoldR s.data.toList := List.take_of_length_le (by rw [HUR.out]; simp [HN.out])
      have := HO.out
      rw [e] at this
      exact own_mono this A2.out.size
end Go.Proofs.Ytecmfdkhcffpmaa
/- Contracts of the document's machine: what Run refuses. -/
namespace Go.Proofs.Ytecmfdkhcffpmaa
open Go.RowKit
set_option linter.unusedSimpArgs false
set_option linter.unusedVariables false
set_option maxHeartbeats 8000000
open Mc
namespace Mc
open Wd
def u8 (t : Int) : UInt8 := UInt8.ofNat t.toNat
theorem bt_u8 {t : Int} (h0 : 0 ≤ t) (h1 : t ≤ 255) : bt (u8 t) = t := by
  unfold bt u8
  rw [UInt8.toNat_ofNat', Nat.mod_eq_of_lt (by omega)]; omega
/-- The trace, in bytes. -/
def traceB (its : List It) (n : Nat) : Ma → List UInt8 → List UInt8
  | S, a :: o :: r => u8 (command its S n (bt a - 48).toNat (bt o)).1 :: (if bad (command its S n (bt a - 48).toNat (bt o)).1 = true then [] else traceB its n (command its S n (bt a - 48).toNat (bt o)).2 r)
  | _, _ => []
def errP (l : List UInt8) : Int := match readP l with
  | .error x => x.1
  | .ok _ => 0
/-- What Run refuses. -/
def refuses (l : List UInt8) (cpus : Int) (s : List UInt8) : Int :=
  if 240 < l.length ∨ 200000 < s.length then 1
  else if errP l ≠ 0 then errP l
  else if cpus < 1 ∨ 3 < cpus then 6
  else if scriptB cpus s = false then 7 else 0
theorem errP_check (l : List UInt8) : (checkR l).1 = errP l := by
  rw [← check_same]; unfold checkP errP
  cases readP l <;> rfl
theorem alone_letter (b : List UInt8) (f : Fr) (hd off second : Bool) : 0 ≤ (alone b f hd off second).1 ∧ (alone b f hd off second).1 ≤ 255 := by
  have := atB_bd b f.pos
  unfold alone
  repeat' split
  all_goals simp only; omega
theorem step_letter (its : List It) (S : Ma) (n c : Nat) (second : Bool) : 0 ≤ (Mc.step its S n c second).1 ∧ (Mc.step its S n c second).1 ≤ 255 := by
  unfold Mc.step
  simp only
  split
  · simp
  split
  · split <;> simp
  split
  · unfold takes
    repeat' split
    all_goals simp
  split
  · split <;> simp
  split
  · simp
  · exact alone_letter _ _ _ _ _
theorem command_letter (its : List It) (S : Ma) (n c : Nat) (what : Int) : 0 ≤ (command its S n c what).1 ∧ (command its S n c what).1 ≤ 255 := by
  unfold command
  split
  · exact step_letter _ _ _ _ _
  split
  · unfold comes
    repeat' split
    all_goals simp
  split <;> simp
end Mc

theorem refuses_any (s : ByteArray) (cpus : Int) (t : ByteArray) (w : World) (hs : s.size ≤ maxLen) (ht : t.size ≤ maxLen) (hc0 : -9223372036854775808 ≤ cpus) (hc1 : cpus ≤ 9223372036854775807) :
    Calls Try.prog 54 #[.string s, .int .i64 cpus, .string t] w fun e w' => e = .returned (.int .i64 (refuses s.data.toList cpus t.data.toList)) ∧ Below w.heap.size w w' := by
  have HX := hide (fun w => checkR_any s w hs)
  unfold maxLen at hs ht
  rw [errP_check] at HX
  by_cases h1 : 240 < s.size
  · have e : refuses s.data.toList cpus t.data.toList = 1 := by unfold refuses; rw [if_pos (Or.inl (by rw [Wd.len_str]; exact h1))]
    rw [e]
    clear e
    go_enter Try.func54, Try.ntmps54
    go_wp2
    go_ret
    exact ⟨rfl, Below.refl _ _⟩
  by_cases h2 : 200000 < t.size
  · have e : refuses s.data.toList cpus t.data.toList = 1 := by unfold refuses; rw [if_pos (Or.inr (by rw [Wd.len_str]; exact h2))]
    rw [e]
    clear e
    go_enter Try.func54, Try.ntmps54
    go_wp2
    go_ret
    exact ⟨rfl, Below.refl _ _⟩
  have e1 : refuses s.data.toList cpus t.data.toList = if errP s.data.toList ≠ 0 then errP s.data.toList else if cpus < 1 ∨ 3 < cpus then 6 else if scriptB cpus t.data.toList = false then 7 else 0 := by
    unfold refuses; rw [if_neg (by rw [Wd.len_str, Wd.len_str]; omega)]
  rw [e1]
  clear e1
  by_cases h3 : errP s.data.toList ≠ 0
  · rw [if_pos h3]
    have t3 : (errP s.data.toList != 0) = true := by simp [h3]
    clear h3
    generalize errP s.data.toList = er at *
    generalize (Wd.checkR s.data.toList).2 = e2 at *
    go_enter Try.func54, Try.ntmps54
    go_wp2_with (first | (go_at_call 15; refine (HX.out _).mono ?_; rintro e w1 ⟨rfl, hb1⟩))
    go_ret
    exact ⟨rfl, hb1⟩
  rw [if_neg h3]
  have h3 : errP s.data.toList = 0 := by simpa using h3
  rw [h3] at HX
  clear h3
  generalize (Wd.checkR s.data.toList).2 = e2 at *
  by_cases h4 : cpus < 1 ∨ 3 < cpus
  · rw [if_pos h4]
    rcases h4 with h4 | h4
    · go_enter Try.func54, Try.ntmps54
      go_wp2_with (first | (go_at_call 15; refine (HX.out _).mono ?_; rintro e w1 ⟨rfl, hb1⟩))
      all_goals first | (exfalso; omega) | (go_ret; exact ⟨rfl, hb1⟩)
    · go_enter Try.func54, Try.ntmps54
      go_wp2_with (first | (go_at_call 15; refine (HX.out _).mono ?_; rintro e w1 ⟨rfl, hb1⟩))
      all_goals first | (exfalso; omega) | (go_ret; exact ⟨rfl, hb1⟩)
  rw [if_neg h4]
  obtain ⟨n, rfl⟩ : ∃ n : Nat, cpus = n := ⟨cpus.toNat, by omega⟩
  have HS := hide (fun w => script_any t n w (by omega) (by omega))
  cases h5 : scriptB n t.data.toList
  · rw [h5] at HS
    rw [if_pos rfl]
    clear h5
    go_enter Try.func54, Try.ntmps54
    go_wp2_with (first | (go_at_call 15; refine (HX.out _).mono ?_; rintro e w1 ⟨rfl, hb1⟩) | (go_at_call 65; refine (HS.out _).mono ?_; rintro e w' ⟨rfl, rfl⟩))
    all_goals first | (exfalso; omega) | (go_ret; exact ⟨rfl, hb1⟩)
  · rw [h5] at HS
    rw [if_neg (by simp)]
    clear h5
    go_enter Try.func54, Try.ntmps54
    go_wp2_with (first | (go_at_call 15; refine (HX.out _).mono ?_; rintro e w1 ⟨rfl, hb1⟩) | (go_at_call 65; refine (HS.out _).mono ?_; rintro e w' ⟨rfl, rfl⟩))
    all_goals first | (exfalso; omega) | (go_ret; exact ⟨rfl, hb1⟩)
end Go.Proofs.Ytecmfdkhcffpmaa
/- The contract of the document's Run. -/
namespace Go.Proofs.Ytecmfdkhcffpmaa
open Go.RowKit
set_option linter.unusedSimpArgs false
set_option linter.unusedVariables false
set_option maxHeartbeats 8000000
open Mc

theorem conv_own {w : World} {base : Nat} {v : Value} {l : List UInt8} (h : w.ownsRow base 5 1 v l.length (Wd.bytesV l)) : (convert 83 9 v).run Try.prog w = .ok (.string (Wd.mkS l)) w := by
  rcases h.2 with ⟨rfl, h0⟩ | ⟨g, cap, cur, rfl, _⟩
  · rw [run_convert_bytes_nil w 83 5 Try.underlying83 Try.underlying5 0 0 9 Try.underlying9, List.eq_nil_of_length_eq_zero h0]; rfl
  · exact run_convert_bytes_back (P := Try.prog) w 83 9 5 ⟨g, 0, none⟩ cap l Try.underlying83 Try.underlying5 Try.underlying9 (own_bytes h)
/-- All the machine's blocks lie below B. -/
structure Ad.lt (A : Ad) (m b B : Nat) : Prop where
  b : b < B
  g1 : A.g1 < B
  g3 : A.g3 < B
  ai : 0 < m → ∀ g, A.ai = some ⟨g, 0, none⟩ → g < B
  a2 : ∀ g, A.a2 = some ⟨g, 0, none⟩ → g < B
theorem DM.keep {w w' : World} {N b B : Nat} {A : Ad} {its : List Wd.It} {n : Nat} {S : Ma} (h : DM w N b A its n S) (hA : A.lt its.length b B) (hs : ∀ k, k < B → w'.heap[k]? = w.heap[k]?) : DM w' N b A its n S :=
  ⟨h.root.same (hs b hA.b), fun hl => (h.items hl).imp fun g hg => ⟨hg.1, hg.2.1.same (hs g (hA.ai hl g hg.1)), hg.2.2⟩, h.cpus.same (hs _ hA.g1), fun hl => (h.ready hl).imp fun g hg => ⟨hg.1, hg.2.1.same (hs g (hA.a2 g hg.1)), hg.2.2⟩, h.at_.same (hs _ hA.g3), h.ne, h.caps, h.a2⟩
theorem own_same {w w' : World} {base : Nat} {e : TypeId} {size : Nat} {v : Value} {n : Nat} {xs : List Value} (h : w.ownsRow base e size v n xs) (hb : ∀ g, base ≤ g → g < w.heap.size → w'.heap[g]? = w.heap[g]?) : w'.ownsRow base e size v n xs := by
  obtain ⟨a1, a2⟩ := h
  refine ⟨a1, ?_⟩
  rcases a2 with a2 | ⟨g', cap, cur, hv', hg, hh, r⟩
  · exact .inl a2
  · exact .inr ⟨g', cap, cur, hv', hg, by rw [hb g' hg (row_lt hh)]; exact hh, r⟩
theorem own_kp {w w' : World} {m b B : Nat} {A : Ad} {e : TypeId} {size : Nat} {v : Value} {n : Nat} {xs : List Value} (h : w.ownsRow B e size v n xs) (hA : A.lt m b B) (hk : Kp A w w') : w'.ownsRow B e size v n xs :=
  own_same h fun g hg hl => hk.same g hl (fun e => by have := hA.g1; omega) (fun e => by have := hA.g3; omega) (fun e => by have := hA.a2 g e; omega)
theorem traceB_cons (its : List Wd.It) (n : Nat) (S : Ma) (s : ByteArray) (k : Nat) (h : k + 1 < s.size) : traceB its n S (s.data.toList.drop k) = u8 (command its S n (((s[k].toNat : Nat) : Int) - 48).toNat ((s[k + 1].toNat : Nat) : Int)).1 :: (if bad (command its S n (((s[k].toNat : Nat) : Int) - 48).toNat ((s[k + 1].toNat : Nat) : Int)).1 = true then [] else traceB its n (command its S n (((s[k].toNat : Nat) : Int) - 48).toNat ((s[k + 1].toNat : Nat) : Int)).2 (s.data.toList.drop (k + 2))) := by
  rw [Wd.drop_cons s k (by omega), Wd.drop_cons s (k + 1) h]; rfl
theorem traceB_end (its : List Wd.It) (n : Nat) (S : Ma) (s : ByteArray) (k : Nat) (h : ¬ k + 1 < s.size) : traceB its n S (s.data.toList.drop k) = [] := by
  have hl : (s.data.toList.drop k).length ≤ 1 := by rw [List.length_drop, Wd.len_str]; omega
  generalize s.data.toList.drop k = l at hl
  match l, hl with
  | [], _ => rfl
  | [_], _ => rfl
theorem script_at {n : Int} {s : ByteArray} {k : Nat} (h : k + 1 < s.size) (hb : scriptB n (s.data.toList.drop k) = true) : 48 ≤ ((s[k].toNat : Nat) : Int) ∧ ((s[k].toNat : Nat) : Int) - 48 < n ∧ isOrd ((s[k + 1].toNat : Nat) : Int) = true ∧ scriptB n (s.data.toList.drop (k + 2)) = true := by
  rw [scriptB_two n s k h] at hb
  simp only [Bool.and_eq_true, decide_eq_true_eq] at hb
  exact ⟨hb.1.1.1, hb.1.1.2, hb.1.2, hb.2⟩
theorem Try.infoU8 : (Try.prog.info? 5).map (fun i => (i.zero, i.size, i.bytes)) = some (some (.int .u8 0), 1, 1) := by kernel_rfl

theorem itsV_at (its : List Wd.It) (i : Nat) (hi : i < its.length * 2) : (Wd.itsV its)[i]? = some (itF its i) := by
  induction its generalizing i with
  | nil => simp at hi
  | cons x r ih =>
    have e : Wd.itsV (x :: r) = .bool x.handler :: .string (Wd.mkS x.body) :: Wd.itsV r := rfl
    rw [e]
    match i, hi with
    | 0, _ => rfl
    | 1, _ => rfl
    | i + 2, hi =>
      rw [List.getElem?_cons_succ, List.getElem?_cons_succ, ih i (by simp at hi; omega)]
      unfold itF
      rw [show (i + 2) % 2 = i % 2 by omega, show (i + 2) / 2 = i / 2 + 1 by omega]
      rfl
theorem own_items {w : World} {base : Nat} {v : Value} {its : List Wd.It} (h : w.ownsRow base 31 2 v its.length (Wd.itsV its)) : ∃ ai ci, v = .slice ai its.length ci ∧ its.length ≤ ci ∧ ci ≤ maxLen ∧ (0 < its.length → ∃ g, ai = some ⟨g, 0, none⟩ ∧ Blk w g (its.length * 2) (itF its)) := by
  rcases h.2 with ⟨rfl, h0⟩ | ⟨g, cap, cur, rfl, hb, hg, h1, h2, h3, h4⟩
  · exact ⟨none, 0, by rw [h0], by omega, Nat.zero_le _, fun h => by omega⟩
  · refine ⟨some ⟨g, 0, none⟩, cap, rfl, h1, h2, fun _ => ⟨g, rfl, ⟨_, _, hg, fun i hi => ?_⟩⟩⟩
    rw [← itsV_at its i hi, ← h4, List.getElem?_take, if_pos hi, Array.getElem?_toList]
theorem own_snoc {w : World} {B : Nat} {v : Value} {acc : List UInt8} {L : Int} (h0 : 0 ≤ L) (h1 : L ≤ 255) (h : w.ownsRow B 5 1 v (acc.length + 1) (Wd.bytesV acc ++ [.int .u8 L])) : w.ownsRow B 5 1 v (acc ++ [u8 L]).length (Wd.bytesV (acc ++ [u8 L])) := by
  have e : Wd.bytesV (acc ++ [u8 L]) = Wd.bytesV acc ++ [.int .u8 L] := by simp [Wd.bytesV, bt_u8 h0 h1]
  rw [e, List.length_append]; exact h
theorem grown_keep {w w' : World} {m b B : Nat} {A : Ad} {e : TypeId} {size n : Nat} {v : Value} {xs : List Value} {o : Obj} (hA : A.lt m b B) (ho : w.ownsRow B e size v n xs) (hB : B ≤ w.heap.size) (hg : (w.alloc o).grownBy w' v.ownBlock) : (∀ j, j < B → w'.heap[j]? = w.heap[j]?) ∧ (w.alloc o).grownBy w' v.ownBlock := by
  refine ⟨fun j hj => ?_, hg⟩
  rw [hg.block j (by simp; omega) (fun e => by have := (ho.lt j e.symm).1; omega), heap_alloc_old _ _ (by omega)]
theorem grown_min {w w' : World} {B : Nat} {e : TypeId} {size n : Nat} {v : Value} {xs : List Value} {o : Obj} (hg : (w.alloc o).grownBy w' v.ownBlock) (ho : w.ownsRow B e size v n xs) : Below (min B w.heap.size) w w' :=
  ((Below.refl _ _).alloc (Nat.min_le_right _ _) o).grown hg (by simp; omega) (fun q hq => Nat.le_trans (Nat.min_le_left _ _) (ho.lt q hq).1)
/-- What Run answers. -/
def runB (l : List UInt8) (cpus : Int) (s : List UInt8) : List UInt8 × Int :=
  if refuses l cpus s ≠ 0 then ([], refuses l cpus s)
  else match Wd.readP l with
    | .error _ => ([], 0)
    | .ok its => (traceB its cpus.toNat (begin_ its) s, 0)

set_option maxRecDepth 100000 in
theorem run_no (s : ByteArray) (cpus : Int) (t : ByteArray) (w : World) (hs : s.size ≤ maxLen) (ht : t.size ≤ maxLen) (hc0 : -9223372036854775808 ≤ cpus) (hc1 : cpus ≤ 9223372036854775807) (hr : refuses s.data.toList cpus t.data.toList ≠ 0) :
    Calls Try.prog 20 #[.string s, .int .i64 cpus, .string t] w fun e w' => e = .returned (.tuple #[.string (Wd.mkS []), .int .i64 (refuses s.data.toList cpus t.data.toList)]) ∧ Below w.heap.size w w' := by
  have AR := hide (fun w => refuses_any s cpus t w hs ht hc0 hc1)
  have t1 : (refuses s.data.toList cpus t.data.toList != 0) = true := by simp [hr]
  clear hr
  generalize refuses s.data.toList cpus t.data.toList = r at *
  go_enter Try.func20, Try.ntmps20
  go_wp2_with (first | (go_at_call 54; refine (AR.out _).mono ?_; rintro e w1 ⟨rfl, hb1⟩))
  go_ret2
  exact ⟨rfl, hb1⟩

set_option maxRecDepth 100000 in
theorem run_yes (s : ByteArray) (n : Nat) (t : ByteArray) (w : World) (its : List Wd.It) (hs : s.size ≤ 240) (ht : t.size ≤ 200000) (hn : n ≤ 3) (hr : refuses s.data.toList n t.data.toList = 0) (hread : Wd.readP s.data.toList = .ok its) (hsc : scriptB n t.data.toList = true) :
    Calls Try.prog 20 #[.string s, .int .i64 n, .string t] w fun e w' => e = .returned (.tuple #[.string (Wd.mkS (traceB its n (begin_ its) t.data.toList)), .int .i64 0]) ∧ Below w.heap.size w w' := by
  have AR := hide (fun w => refuses_any s n t w (by unfold maxLen; omega) (by unfold maxLen; omega) (by omega) (by omega))
  rw [hr] at AR
  obtain ⟨g1, g2, g3, g4⟩ := Wd.readP_good hread
  have hok : (Wd.checkR s.data.toList).1 = 0 := by rw [errP_check, errP, hread]
  have AU := fun w => refUnfold_ok s w hs hok g4
  rw [← g2] at AU
  have HAU := hide AU
  have HF := hide (fine_of hread)
  have hl8 := HF.out.len
  clear AU hok g1 g2 g3 g4 hr hread
  go_enter Try.func20, Try.ntmps20
  go_wp2_with (first | (go_at_call 54; refine (AR.out _).mono ?_; rintro e w1 ⟨rfl, hb1⟩))
  go_at_call 16
  refine (HAU.out _).mono ?_
  rintro e w2 ⟨v, rfl, hown, hb2⟩
  obtain ⟨ai, ci, rfl, hci1, hci2, hit⟩ := own_items hown
  have AB := hide (begin_any w2 its n ai ci hn (by omega) ⟨hci1, hci2⟩ hit)
  have HB2 := hide (below_go hb1 hb2)
  clear hown hit hb1 hb2
  go_wp2_with (first | (go_at_call 55; refine AB.out.mono ?_; rintro e w3 ⟨b, A, rfl, e1, e2, e3, hm3, hb3⟩))
  have HB3 := hide (below_go HB2.out hb3)
  have hN2 : w.heap.size ≤ w2.heap.size := HB2.out.size
  have HAL : Hid (A.lt its.length b w3.heap.size) := hide ⟨hm3.root.lt, hm3.cpus.lt, hm3.at_.lt, fun h g e => by obtain ⟨g', k1, k2, _⟩ := hm3.items h; rw [k1] at e; cases e; exact k2.lt, e3⟩
  have HM3 := hide hm3
  have HAN : Hid (w2.heap.size ≤ w3.heap.size ∧ True) := hide ⟨hb3.size, trivial⟩
  have hsz3 : w.heap.size ≤ w3.heap.size := HB3.out.size
  clear hm3 hb3 e1 e2 e3 AB HB2
  generalize hT : traceB its n (begin_ its) t.data.toList = T at *
  have HT := hide hT
  clear hT
  obtain ⟨i0, hi0, hz0, hz1, hz2⟩ := info_parts Try.infoU8
  have HSC := hide hsc
  clear hsc
  generalize hBB : w3.heap.size = B at *
  have HBB := hide hBB
  clear hBB
  go_loopw [12, 13] (fun a c wr => ∃ (k : Nat) (acc : List UInt8) (S : Ma), k ≤ t.size ∧ c = .int .i64 k ∧ acc.length ≤ k ∧ wr.ownsRow B 5 1 a acc.length (Wd.bytesV acc) ∧ DM wr w2.heap.size b A its n S ∧ Mc.Inv its n S ∧ scriptB n (t.data.toList.drop k) = true ∧ T = acc ++ traceB its n S (t.data.toList.drop k) ∧ Below w.heap.size w wr ∧ B ≤ wr.heap.size) (fun _ c _ => t.size - (intOf c).toNat)
  case atStart => exact ⟨0, [], begin_ its, by omega, rfl, by simp, World.ownsRow_nil _ _ _ _, HM3.out, Inv.begin_ its n, HSC.out, by rw [← HT.out]; rfl, HB3.out, by rw [HBB.out]; exact Nat.le_refl _⟩
  case round =>
    obtain ⟨k, acc, S, hk, rfl, hacc, hown, hm, hinv, hscr, htr, hbe, hbs⟩ := hrel
    have HO := hide hown
    have HM := hide hm
    have HI := hide hinv
    have HSR := hide hscr
    have HTR := hide htr
    have HB := hide hbe
    clear hown hm hinv hscr htr hbe HM3 HB3 HSC HBB
    by_cases hlt : k + 1 < t.size
    · obtain ⟨q1, q2, q3, q4⟩ := script_at hlt HSR.out
      have HQ4 := hide q4
      have hcl := command_letter its S n (((t[k].toNat : Nat) : Int) - 48).toNat ((t[k + 1].toNat : Nat) : Int)
      have hbo : (0 : Int) ≤ ((t[k + 1].toNat : Nat) : Int) ∧ ((t[k + 1].toNat : Nat) : Int) ≤ 255 := by have := t[k + 1].toNat_lt; omega
      have hba : ((t[k].toNat : Nat) : Int) ≤ 255 := by have := t[k].toNat_lt; omega
      have hcast : ((((t[k].toNat : Nat) : Int) - 48).toNat : Int) = ((t[k].toNat : Nat) : Int) - 48 := by omega
      have HIN := hide (HI.out.command HF.out.ok (((t[k].toNat : Nat) : Int) - 48).toNat (by omega) ((t[k + 1].toNat : Nat) : Int))
      have AC := hide (fun W (hW : DM W w2.heap.size b A its n S) => command_any W w2.heap.size b A its n S (((t[k].toNat : Nat) : Int) - 48).toNat ((t[k + 1].toNat : Nat) : Int) hW HF.out.ok HI.out hn (by omega) hbo.1 hbo.2 q3)
      simp only [hcast] at AC
      have HTC := hide (traceB_cons its n S t k hlt)
      have hw8 : IntKind.u8.wrap (((t[k].toNat : Nat) : Int) - 48) = ((t[k].toNat : Nat) : Int) - 48 := by rw [IntKind.wrap_u8]; omega
      have hw64 : IntKind.i64.wrap (((t[k].toNat : Nat) : Int) - 48) = ((t[k].toNat : Nat) : Int) - 48 := by rw [IntKind.wrap_i64]; omega
      have hwk : IntKind.i64.wrap ((k : Int) + 1) = (k : Int) + 1 := by rw [IntKind.wrap_i64]; omega
      have hk1 : (0 : Int) ≤ (k : Int) + 1 := by omega
      have hk2 : (k : Int) + 1 < (t.size : Int) := by omega
      have hk3 : (k : Int) < (t.size : Int) := by omega
      clear hcast q4
      generalize command its S n (((t[k].toNat : Nat) : Int) - 48).toNat ((t[k + 1].toNat : Nat) : Int) = R at *
      obtain ⟨L, S'⟩ := R
      simp only at hcl HIN HTC AC
      go_wp2_with fail
      go_region_held3 (fun _ => True) (trivial) (first | (go_at_call 56; refine (AC.out _ HM.out.drew).mono ?_; rintro e w4 ⟨rfl, hm4, hk4⟩))
      all_goals (
        have HM4 := hide hm4
        have HK4 := hide ((Kp.refl A wr).drew.trans hk4)
        have HO4 := hide (own_kp HO.out HAL.out HK4.out)
        have HB4 := hide (HB.out.trans (Kp.dm HM.out HK4.out (Nat.le_trans HAN.out.1 hbs) |>.mono hN2))
        have hs4 : B ≤ w4.heap.size := Nat.le_trans hbs HK4.out.size
        clear hm4 hk4 AC
        have AB := hide (fun W => bad_any L W hcl.1 hcl.2)
        cases hbad : bad L
        · rw [hbad] at AB
          have HTN : Hid (T = (acc ++ [u8 L]) ++ traceB its n S' (t.data.toList.drop (k + 2))) := by apply hide; rw [HTR.out, HTC.out, hbad]; simp
          go_wp2_with (first | (at_builtin; refine wpList_append_own _ rfl _ _ 83 rfl B 5 i0 (.int .u8 0) 1 1 Try.underlying83 hi0 hz0 hz1 hz2 rfl (by decide) _ _ _ rfl (HO4.out.alloc _) ⟨_, 0, none⟩ 1 1 [.int .u8 L] rfl rfl (cell_one_new _ _ _) (fun x hx => by simp at hx; subst hx; rfl) (by unfold maxLen; omega) (by omega) (by simp; omega) ?_; intro v' w5 hown' hgrow5 hnil5; have HG := hide hgrow5; have HW := hide (own_snoc hcl.1 hcl.2 hown'); have hcv := conv_own HW.out; clear hgrow5 hown' hnil5) | (go_at_call 57; refine (AB.out _).mono ?_; rintro e w' ⟨rfl, hww⟩; obtain rfl := hww.symm; clear hww))
          have HU := hide (grown_keep HAL.out HO4.out hs4 HG.out)
          refine ⟨⟨k + 2, acc ++ [u8 L], S', by omega, by go_num, by simp; omega, HW.out, HM4.out.keep HAL.out (fun j hj => (HU.out.1 j hj)), HIN.out, HQ4.out, HTN.out, HB4.out.trans ((grown_min HU.out.2 HO4.out).mono (by omega)), by have := HU.out.2.size; simp at this; omega⟩, by simp [intOf]; omega⟩
        · rw [hbad] at AB
          have HTN : Hid (T = acc ++ [u8 L]) := by apply hide; rw [HTR.out, HTC.out, hbad]; simp
          go_wp2_with (first | (at_builtin; refine wpList_append_own _ rfl _ _ 83 rfl B 5 i0 (.int .u8 0) 1 1 Try.underlying83 hi0 hz0 hz1 hz2 rfl (by decide) _ _ _ rfl (HO4.out.alloc _) ⟨_, 0, none⟩ 1 1 [.int .u8 L] rfl rfl (cell_one_new _ _ _) (fun x hx => by simp at hx; subst hx; rfl) (by unfold maxLen; omega) (by omega) (by simp; omega) ?_; intro v' w5 hown' hgrow5 hnil5; have HG := hide hgrow5; have HW := hide (own_snoc hcl.1 hcl.2 hown'); have hcv := conv_own HW.out; clear hgrow5 hown' hnil5) | (go_at_call 57; refine (AB.out _).mono ?_; rintro e w' ⟨rfl, hww⟩; obtain rfl := hww.symm; clear hww))
          go_ret2
          have HU := hide (grown_keep HAL.out HO4.out hs4 HG.out)
          exact ⟨by rw [HT.out, HTN.out]; rfl, HB4.out.trans ((grown_min HU.out.2 HO4.out).mono (by omega))⟩)
    · have hcv := conv_own HO.out
      have HTN : Hid (T = acc) := by apply hide; rw [HTR.out, traceB_end its n S t k hlt]; simp
      go_wp2
      go_ret2
      exact ⟨by rw [HT.out, HTN.out]; rfl, HB.out⟩

theorem refuses_zero {l s : List UInt8} {cpus : Int} (h : refuses l cpus s = 0) : l.length ≤ 240 ∧ s.length ≤ 200000 ∧ 1 ≤ cpus ∧ cpus ≤ 3 ∧ scriptB cpus s = true ∧ ∃ its, Wd.readP l = .ok its := by
  unfold refuses at h
  by_cases h1 : 240 < l.length ∨ 200000 < s.length
  · rw [if_pos h1] at h; cases h
  rw [if_neg h1] at h
  by_cases h2 : errP l ≠ 0
  · rw [if_pos h2] at h; exact absurd h h2
  rw [if_neg h2] at h
  by_cases h3 : cpus < 1 ∨ 3 < cpus
  · rw [if_pos h3] at h; cases h
  rw [if_neg h3] at h
  cases h4 : scriptB cpus s with
  | false => rw [if_pos h4] at h; cases h
  | true =>
    refine ⟨by omega, by omega, by omega, by omega, rfl, ?_⟩
    unfold errP at h2
    cases h5 : Wd.readP l with
    | error x => rw [h5] at h2; exact absurd (Wd.readP_err h5) h2
    | ok its => exact ⟨its, rfl⟩

/-- The document's Run answers with runB. -/
theorem refRun_any (s : ByteArray) (cpus : Int) (t : ByteArray) (w : World) (hs : s.size ≤ maxLen) (ht : t.size ≤ maxLen) (hc0 : -9223372036854775808 ≤ cpus) (hc1 : cpus ≤ 9223372036854775807) :
    Calls Try.prog 20 #[.string s, .int .i64 cpus, .string t] w fun e w' => e = .returned (.tuple #[.string (Wd.mkS (runB s.data.toList cpus t.data.toList).1), .int .i64 (runB s.data.toList cpus t.data.toList).2]) ∧ Below w.heap.size w w' := by
  by_cases h : refuses s.data.toList cpus t.data.toList = 0
  · obtain ⟨h1, h2, h3, h4, h5, its, h6⟩ := refuses_zero h
    obtain ⟨n, rfl⟩ : ∃ n : Nat, cpus = n := ⟨cpus.toNat, by omega⟩
    have e : runB s.data.toList n t.data.toList = (traceB its n (begin_ its) t.data.toList, 0) := by
      unfold runB; rw [if_neg (by simpa using h), h6]; rfl
    rw [e]
    rw [Wd.len_str] at h1 h2
    exact run_yes s n t w its h1 h2 (by omega) h h6 h5
  · have e : runB s.data.toList cpus t.data.toList = ([], refuses s.data.toList cpus t.data.toList) := by
      unfold runB; rw [if_pos h]
    rw [e]
    exact run_no s cpus t w hs ht hc0 hc1 h
end Go.Proofs.Ytecmfdkhcffpmaa
