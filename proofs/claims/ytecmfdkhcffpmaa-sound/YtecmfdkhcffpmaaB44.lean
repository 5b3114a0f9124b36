/- StE. -/
import Derived.Test.YtecmfdkhcffpmaaB43
import Derived.Test.YtecmfdkhcffpmaaB41
import Derived.Test.YtecmfdkhcffpmaaB17
import Derived.Test.YtecmfdkhcffpmaaB38
/- Contracts of the program's reports: all items are looked through. -/
namespace Go.Proofs.Ytecmfdkhcffpmaa
open Go.RowKit
set_option linter.unusedSimpArgs false
set_option linter.unusedVariables false
set_option maxHeartbeats 8000000
open Mc

theorem Try.infoKnown : (Try.prog.info? 150).map (fun i => (i.zero, i.size, i.bytes)) = some (some (.agg #[.bool false, .bool false, .string ⟨#[]⟩, .slice none 0 0, .slice none 0 0]), 5, 80) := by kernel_rfl
/-- What is known belongs to the items. -/
structure KnOf (its : List Wd.It) (K : List Kn) : Prop where
  len : K.length = its.length
  at_ : ∀ (i : Nat) (k : Kn), K[i]? = some k → k.hd = isH its i ∧ k.s = Wd.mkS (bodyOf its i)
def kp (k : Kn) : Kp3 := ⟨k.hd, k.s.data.toList, k.L⟩
theorem KnOf.kof {w : World} {v : Value} {its : List Wd.It} {K : List Kn} (h : KnOf its K) (ha : KnAll w v K) : KOf its (K.map kp) ∧ ∀ k ∈ K.map kp, KpOK k := by
  refine ⟨⟨by rw [List.length_map, h.len], fun i k hk => ?_⟩, fun k hk => ?_⟩
  · rw [List.getElem?_map] at hk
    cases hq : K[i]? with
    | none => rw [hq] at hk; cases hk
    | some x =>
      rw [hq] at hk
      cases hk
      obtain ⟨e1, e2⟩ := h.at_ i x hq
      refine ⟨e1, ?_, fun s => (ha.each x (List.mem_of_getElem? hq)).fin.all s⟩
      show x.s.data.toList = _
      rw [e2]; exact Wd.mkS_list _
  · obtain ⟨x, hx, rfl⟩ := List.mem_map.1 hk
    have hi := ha.each x hx
    exact ⟨fun s => hi.fin.all s, fun r hr => (hi.fin.ok hi.gb hr).1⟩
/-- While they are looked through. -/
structure LkI (w w' : World) (its : List Wd.It) (v : Value) (K : List Kn) : Prop where
  own : w'.ownsRow w.heap.size 150 5 v K.length (K.flatMap knV)
  each : ∀ k ∈ K, KnIn w' k ∧ (∀ j, k.v.ownBlock = some j → v.ownBlock ≠ some j)
  at_ : ∀ (i : Nat) (k : Kn), K[i]? = some k → k.hd = isH its i ∧ k.s = Wd.mkS (bodyOf its i)
  bel : Below w.heap.size w w'
theorem own_lt0 {w : World} {base : Nat} {t : TypeId} {n m : Nat} {v : Value} {xs : List Value} (h : w.ownsRow base t n v m xs) {j : Nat} (hj : v.ownBlock = some j) : base ≤ j ∧ j < w.heap.size := by
  rcases h.2 with ⟨rfl, _⟩ | ⟨g, cap, cur, rfl, hb, hg, _⟩
  · cases hj
  · injection hj with hj
    subst hj
    exact ⟨hb, row_lt hg⟩
theorem own_keep {w w' : World} {base : Nat} {t : TypeId} {n m : Nat} {v : Value} {xs : List Value} (h : w.ownsRow base t n v m xs) (hs : ∀ j, v.ownBlock = some j → w'.heap[j]? = w.heap[j]?) : w'.ownsRow base t n v m xs := by
  refine ⟨h.1, ?_⟩
  rcases h.2 with a | ⟨g, cap, cur, rfl, hb, hg, r⟩
  · exact .inl a
  · exact .inr ⟨g, cap, cur, rfl, hb, by rw [hs g rfl]; exact hg, r⟩
theorem LkI.push {w w1 w2 w3 w4 : World} {its : List Wd.It} {v v' : Value} {K : List Kn} {k : Kn} (h : LkI w w1 its v K) (hb12 : Below w1.heap.size w1 w2) (hin : KnIn w2 k) (hk1 : ∀ j, k.v.ownBlock = some j → w1.heap.size ≤ j) (hk2 : ∀ j, k.v.ownBlock = some j → j < w2.heap.size) (hb23 : Below w2.heap.size w2 w3) (hown : w4.ownsRow w.heap.size 150 5 v' (K ++ [k]).length ((K ++ [k]).flatMap knV)) (hbel : Below w.heap.size w3 w4) (hs : ∀ j, j < w3.heap.size → v.ownBlock ≠ some j → w4.heap[j]? = w3.heap[j]?) (hat : v'.ownBlock = v.ownBlock ∨ v'.ownBlock = some w3.heap.size) (e1 : k.hd = isH its K.length) (e2 : k.s = Wd.mkS (bodyOf its K.length)) : LkI w w4 its v' (K ++ [k]) := by
  have hz0 := h.bel.size
  have hz1 := hb12.size
  have hz2 := hb23.size
  refine ⟨hown, fun x hx => ?_, fun i x hx => ?_, ((h.bel.trans (hb12.mono (by omega))).trans (hb23.mono (by omega))).trans hbel⟩
  · have key : ∀ x : Kn, KnIn w2 x → (∀ j, x.v.ownBlock = some j → j < w2.heap.size ∧ v.ownBlock ≠ some j) → KnIn w4 x ∧ (∀ j, x.v.ownBlock = some j → v'.ownBlock ≠ some j) := by
      intro x hi hj
      refine ⟨⟨own_keep hi.own (fun j e => ?_), hi.fin, hi.gb, hi.short⟩, fun j e e' => ?_⟩
      · obtain ⟨h1, h2⟩ := hj j e
        rw [hs j (by omega) h2, hb23.block j h1]
      · obtain ⟨h1, h2⟩ := hj j e
        rcases hat with a | a
        · rw [a] at e'; exact h2 e'
        · rw [a] at e'; injection e' with e'; omega
    rcases List.mem_append.1 hx with hx | hx
    · obtain ⟨hi, hj⟩ := h.each x hx
      refine key x (hi.below hb12) (fun j e => ⟨?_, hj j e⟩)
      have := (own_lt0 hi.own e).2
      omega
    · have hx' : x = k := by simpa using hx
      subst hx'
      refine key x hin (fun j e => ⟨hk2 j e, fun e' => ?_⟩)
      have h1 := (own_lt0 h.own e').2
      have h2 := hk1 j e
      omega
  · by_cases hl : i < K.length
    · rw [List.getElem?_append_left hl] at hx
      exact h.at_ i x hx
    · rw [List.getElem?_append_right (by omega)] at hx
      have e : i - K.length = 0 := by
        by_cases e : i - K.length = 0
        · exact e
        · rw [List.getElem?_eq_none (by simp; omega)] at hx; cases hx
      rw [e] at hx
      cases hx
      have : i = K.length := by omega
      rw [this]
      exact ⟨e1, e2⟩
set_option maxRecDepth 100000 in
theorem lookThrough_ok (s : ByteArray) (w : World) (its : List Wd.It) (hs : s.size ≤ maxLen) (hread : Wd.readP s.data.toList = .ok its) :
    Calls Try.prog 86 #[.string s] w fun e w' => ∃ ao cc K, e = .returned (.tuple #[.slice ao its.length cc, .int .i64 0]) ∧ KnAll w' (.slice ao its.length cc) K ∧ KnOf its K ∧ Below w.heap.size w w' := by
  have HF := hide (fine_of hread)
  have HX := sourceUnfold_any s w hs
  rw [hread] at HX
  have HXX := hide HX
  clear HX hread
  have hlen8 := HF.out.len
  obtain ⟨i0, hj0, hz0, hz1, hz2⟩ := info_parts Try.infoKnown
  go_enter Try.func86, Try.ntmps86
  go_wp2_with (first | (go_at_call 52; refine (HXX.out).mono ?_; rintro e w1 ⟨hb1, g0, c0, rfl, hown1⟩; have HB1 := hide hb1; have HO1 := hide hown1; clear hb1 hown1))
  have HLK : Hid (LkI w (w1.alloc (.cells #[] 150)) its (.slice (some ⟨w1.heap.size, 0, none⟩) 0 0) []) := hide ⟨⟨rfl, .inr ⟨w1.heap.size, 0, #[], rfl, HB1.out.size, heap_alloc_last _ _, Nat.le_refl _, by decide, rfl, rfl⟩⟩, fun k hk => (by cases hk), fun i k hk => (by cases hk), below_new HB1.out _⟩
  have HIT : Hid (∀ k, k < its.length → w1.cell? ⟨g0, k * 2, none⟩ = some (.bool (isH its k)) ∧ w1.cell? ⟨g0, k * 2 + 1, none⟩ = some (.string (Wd.mkS (bodyOf its k))) ∧ g0 < w1.heap.size) := by
    apply hide
    intro k hk
    obtain ⟨g, cap, hv, hb, hlt, hr⟩ := own_el (f := Wd.itV) (n := 2) (L := its) (fun _ => rfl) HO1.out (i := k) (r := its[k]) (List.getElem?_eq_getElem hk)
    cases hv
    have e1 : isH its k = its[k].handler := by simp [isH, List.getD, hk]
    have e2 : bodyOf its k = its[k].body := by simp [bodyOf, List.getD, hk]
    rw [e1, e2]
    exact ⟨hr.2.2 0 _ rfl, hr.2.2 1 _ rfl, hlt⟩
  have hs1 : w.heap.size ≤ w1.heap.size := HB1.out.size
  have HW1 : Hid (Below w1.heap.size w1 (w1.alloc (.cells #[] 150))) := hide (below_one _ _)
  have hsz1 : w1.heap.size < (w1.alloc (.cells #[] 150)).heap.size := by simp
  go_loopw [6, 21] (fun a c wr => ∃ (k : Nat) (K : List Kn), k ≤ its.length ∧ K.length = k ∧ c = .int .i64 k ∧ LkI w wr its a K ∧ w1.heap.size ≤ wr.heap.size ∧ Below w1.heap.size w1 wr ∧ (∀ j, a.ownBlock = some j → w1.heap.size ≤ j)) (fun _ c _ => its.length - (intOf c).toNat)
  case atStart => exact ⟨0, [], by omega, rfl, rfl, HLK.out, by omega, HW1.out, fun j hj => by simp [Value.ownBlock] at hj; omega⟩
  case round =>
    clear HLK hsz1 HW1
    obtain ⟨k, K, hk, hKl, rfl, hlk, hsz, hbw, hnw⟩ := hrel
    subst hKl
    have HLK := hide hlk
    have HBW := hide hbw
    have HNW := hide hnw
    clear hlk hbw hnw
    obtain ⟨ao, cc, hv⟩ := own_v HLK.out.own
    subst hv
    by_cases hlt : K.length < its.length
    · obtain ⟨d0, d1, hg0⟩ := HIT.out K.length hlt
      have c0' : wr.cell? ⟨g0, K.length * 2, none⟩ = some (.bool (isH its K.length)) := by rw [HBW.out.cell (by exact hg0)]; exact d0
      have c1' : wr.cell? ⟨g0, K.length * 2 + 1, none⟩ = some (.string (Wd.mkS (bodyOf its K.length))) := by rw [HBW.out.cell (by exact hg0)]; exact d1
      have hgb := hide (HF.out.gb hlt)
      have hbl : (bodyOf its K.length).length ≤ 300 := hgb.out.short
      have AK := hide (fun W => knownOf_any (isH its K.length) (Wd.mkS (bodyOf its K.length)) W (by rw [Wd.mkS_size]; exact hbl) (by rw [Wd.mkS_list]; exact hgb.out))
      simp only [Wd.mkS_size, Wd.mkS_list] at AK
      clear d0 d1
      have hk0 : (0 : Int) ≤ (K.length : Int) := by omega
      go_wp2_with fail
      have HB1' := hide (below_one wr (.cells #[.bool (isH its K.length), .string (Wd.mkS (bodyOf its K.length))] 31))
      have hsz' : wr.heap.size < (wr.alloc (.cells #[.bool (isH its K.length), .string (Wd.mkS (bodyOf its K.length))] 31)).heap.size := by simp
      generalize wr.alloc (.cells #[.bool (isH its K.length), .string (Wd.mkS (bodyOf its K.length))] 31) = w1' at *
      go_at_call 98
      refine (AK.out _).mono ?_
      rintro e w2 ⟨kv, RL, g, rfl, hown2, hfin2, hb2⟩
      obtain ⟨rao, rcc, hkv⟩ := own_v hown2
      subst hkv
      have HOR := hide hown2
      have HFN := hide hfin2
      have HB2 := hide (below_go HB1'.out hb2)
      have HKB := hide (fun j hj => own_lt0 hown2 (j := j) hj)
      have HOW2 := hide (own_same HLK.out.own (fun j hj hl => HB2.out.block j hl))
      have KNV : Hid (knV ⟨isH its K.length, Wd.mkS (bodyOf its K.length), g, .slice rao RL.length rcc, RL⟩ = #[.bool (isH its K.length), .bool (isH its K.length), .string (Wd.mkS (bodyOf its K.length)), .slice (some ⟨g, 0, none⟩) (bodyOf its K.length).length (bodyOf its K.length).length, .slice rao RL.length rcc].toList) := hide (by unfold knV; simp only [Wd.mkS_size])
      have hs2 : w1'.heap.size ≤ w2.heap.size := hb2.size
      clear hown2 hfin2 hb2 c0' c1'
      go_wp2_with (first | (refine wpList_store_row rfl 150 _ _ rfl w2.heap.size #[.bool (isH its K.length), .bool (isH its K.length), .string (Wd.mkS (bodyOf its K.length)), .slice (some ⟨g, 0, none⟩) (bodyOf its K.length).length (bodyOf its K.length).length, .slice rao RL.length rcc] rfl rfl 150 #[.bool false, .bool false, .string ⟨#[]⟩, .slice none 0 0, .slice none 0 0] ?_ Try.iKnown rfl (by simp [Value.oneCell']) ?_; (exact (Row.new w2 #[.bool false, .bool false, .string ⟨#[]⟩, .slice none 0 0, .slice none 0 0] 150).raw); rw [World.setRow_alloc_new]; have HKR3 := hide (Row.new w2 #[.bool (isH its K.length), .bool (isH its K.length), .string (Wd.mkS (bodyOf its K.length)), .slice (some ⟨g, 0, none⟩) (bodyOf its K.length).length (bodyOf its K.length).length, .slice rao RL.length rcc] 150); have HB3 := hide (below_one w2 (.cells #[.bool (isH its K.length), .bool (isH its K.length), .string (Wd.mkS (bodyOf its K.length)), .slice (some ⟨g, 0, none⟩) (bodyOf its K.length).length (bodyOf its K.length).length, .slice rao RL.length rcc] 150)); have HOW3 := hide (HOW2.out.alloc (.cells #[.bool (isH its K.length), .bool (isH its K.length), .string (Wd.mkS (bodyOf its K.length)), .slice (some ⟨g, 0, none⟩) (bodyOf its K.length).length (bodyOf its K.length).length, .slice rao RL.length rcc] 150)); generalize w2.alloc (.cells #[.bool (isH its K.length), .bool (isH its K.length), .string (Wd.mkS (bodyOf its K.length)), .slice (some ⟨g, 0, none⟩) (bodyOf its K.length).length (bodyOf its K.length).length, .slice rao RL.length rcc] 150) = w3 at *; have hs3 : w2.heap.size < w3.heap.size := HKR3.out.lt) | (refine wpList_load_row rfl 150 _ rfl _ rfl 150 #[.bool (isH its K.length), .bool (isH its K.length), .string (Wd.mkS (bodyOf its K.length)), .slice (some ⟨g, 0, none⟩) (bodyOf its K.length).length (bodyOf its K.length).length, .slice rao RL.length rcc] (0, 0) _ ?_ Try.underlying150 rfl Try.iKnown ?_; (exact HKR3.out.raw)) | (at_builtin; refine wpList_push (f := knV) knV_len rfl _ _ 135 rfl w.heap.size 150 i0 _ 80 Try.underlying135 hj0 hz0 hz1 hz2 rfl (by decide) _ K ⟨isH its K.length, Wd.mkS (bodyOf its K.length), g, .slice rao RL.length rcc, RL⟩ rfl ⟨_, 0, none⟩ rfl ?_ ?_ ?_ ?_ ?_ ?_ ?_; (exact HOW3.out.alloc _); (rw [KNV.out]; exact newsL _ _ _); (rw [KNV.out]; intro x hx; simp at hx; rcases hx with rfl | rfl | rfl | rfl <;> rfl); (unfold maxLen; omega); (omega); (simp; omega); intro ao' cc' w5 hown' hbel' hsame' hat'; have HO5 := hide hown'; have HBL5 := hide hbel'; have HS5 := hide hsame'; have HA5 := hide hat'; clear hown' hbel' hsame' hat'))
      go_round
      case measure => simp [intOf]; omega
      case rel =>
        refine ⟨K.length + 1, K ++ [⟨isH its K.length, Wd.mkS (bodyOf its K.length), g, .slice rao RL.length rcc, RL⟩], by omega, by simp, by go_num, ?_, ?_, ?_, ?_⟩
        · have hin : KnIn w2 ⟨isH its K.length, Wd.mkS (bodyOf its K.length), g, .slice rao RL.length rcc, RL⟩ := ⟨own_mono HOR.out (Nat.zero_le _), by show RFin _ (Wd.mkS _).data.toList _; rw [Wd.mkS_list]; exact HFN.out, by show GB (Wd.mkS _).data.toList; rw [Wd.mkS_list]; exact hgb.out, by show (Wd.mkS _).size ≤ 300; rw [Wd.mkS_size]; exact hbl⟩
          exact HLK.out.push HB2.out hin (fun j hj => by have := HKB.out j hj; omega) (fun j hj => (HKB.out j hj).2) (below_new HB3.out _) HO5.out HBL5.out HS5.out HA5.out rfl rfl
        · have h1 := HB2.out.size
          have h2 := HB3.out.size
          have h3 := HBL5.out.size
          simp at h3
          omega
        · have h1 := HB2.out.size
          have h2 := HB3.out.size
          have hlt0 : ∀ j, (Value.slice ao K.length cc).ownBlock = some j → w1.heap.size ≤ j := fun j hj => HNW.out j hj
          refine (HBW.out.trans (HB2.out.mono (by omega))).trans ((HB3.out.mono (by omega)).trans ?_)
          refine ((Below.refl _ _).alloc (by omega) _).trans ⟨HBL5.out.os, HBL5.out.tape, HBL5.out.output, HBL5.out.size, fun j hj => ?_⟩
          exact HS5.out j (by simp; omega) (fun e => by have := hlt0 j e; omega)
        · intro j hj
          have h1 := HB2.out.size
          have h2 := HB3.out.size
          rcases HA5.out with e | e
          · rw [e] at hj; exact HNW.out j hj
          · rw [e] at hj; injection hj with hj; simp at hj; omega
    · have e : K.length = its.length := by omega
      go_wp2
      go_ret2
      exact ⟨ao, cc, K, by rw [← e]; rfl, by rw [← e]; exact ⟨own_mono HLK.out.own (Nat.zero_le _), fun k hk => (HLK.out.each k hk).1, by omega⟩, ⟨e, HLK.out.at_⟩, HLK.out.bel⟩
end Go.Proofs.Ytecmfdkhcffpmaa
