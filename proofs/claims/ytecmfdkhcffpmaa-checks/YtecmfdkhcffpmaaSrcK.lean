/- Contracts of the program's 'read', 'Check', 'Unfold'. -/
import Derived.Test.YtecmfdkhcffpmaaSrcJ
import Derived.Test.YtecmfdkhcffpmaaPure9
namespace Go.Proofs.Ytecmfdkhcffpmaa
open Go.RowKit
set_option linter.unusedSimpArgs false
set_option linter.unusedVariables false
set_option maxHeartbeats 800000

/-- What 'read' leaves: the items in memory of their own; or the error and its place. -/
def ReadPost (w : World) (r : Except (Int × Int) (List Wd.It)) (e : Ending) (w' : World) : Prop :=
  Below w.heap.size w w' ∧ (match r with
    | .ok its => ∃ g cap, e = .returned (.tuple #[.slice (some ⟨g, 0, none⟩) its.length cap, .int .i64 0, .int .i64 0]) ∧ w'.ownsRow w.heap.size 31 2 (.slice (some ⟨g, 0, none⟩) its.length cap) its.length (Wd.itsV its)
    | .error x => e = .returned (.tuple #[.slice none 0 0, .int .i64 x.1, .int .i64 x.2]))

theorem own_below {w w' : World} {base : Nat} {e : TypeId} {size : Nat} {v : Value} {n : Nat} {xs : List Value} (h : w.ownsRow base e size v n xs) (hb : Below w.heap.size w w') : w'.ownsRow base e size v n xs :=
  h.kept ⟨hb.os, hb.tape, hb.output, hb.size, fun q hq _ => hb.block q hq⟩ (row := none) (by cases hv : v.ownBlock <;> simp)

set_option maxRecDepth 100000 in
set_option maxHeartbeats 3000000 in
theorem read_any (s : ByteArray) (w : World) (hs : s.size ≤ maxLen) :
    Calls Try.prog 72 #[.string s] w (ReadPost w (Wd.readP s.data.toList)) := by
  unfold maxLen at hs
  by_cases hbig : 240 < s.size
  · rw [Wd.readP_long (l := s.data.toList) (by rw [Wd.len_str]; exact hbig)]
    go_enter Try.func72, Try.ntmps72
    go_wp2
    go_ret3
    exact ⟨Below.refl _ _, rfl⟩
  · have hl : ¬ 240 < s.data.toList.length := by rw [Wd.len_str]; exact hbig
    have HL := hide hl
    clear hl
    have HR : Hid (∀ x, Wd.readP s.data.toList = x → Wd.readP s.data.toList = x) := fun _ h => h
    generalize hr : Wd.readP s.data.toList = r at HR ⊢
    have HRR := hide hr
    clear HR hr
    go_enter Try.func72, Try.ntmps72
    go_wp2_with fail
    refine (faultOfText_any s _ (by omega)).mono ?_
    cases hp : Wd.fault s.data.toList with
    | some i =>
      rintro e w1 ⟨rfl, hb1⟩
      have HB1 := hide hb1
      have HC := hide (Wd.readP_text HL.out hp)
      have hne : ((i : Int) != -1) = true := by rw [bne_iff_ne]; omega
      clear hb1 hp
      simp only [Wd.toInt]
      go_wp2_with fail
      go_ret3
      rw [← HRR.out, HC.out]
      exact ⟨HB1.out, rfl⟩
    | none =>
      rintro e w1 ⟨rfl, hb1⟩
      have HB1 := hide hb1
      have HP1 := hide hp
      clear hb1 hp
      simp only [Wd.toInt]
      go_wp2_with fail
      refine (split_any s _ (by omega)).mono ?_
      rintro e w2 ⟨v, rfl, hown2, hb2⟩
      have HB2 := hide (HB1.out.trans (hb2.mono HB1.out.size))
      have HO2 := hide hown2
      clear hb2 hown2 HB1
      obtain ⟨ao, cap, hv⟩ : ∃ ao cap, v = .slice ao (Wd.split s.data.toList).ps.length cap := by
        rcases HO2.out.2 with ⟨h1, h2⟩ | ⟨g, cap, cur, h1, _⟩
        · exact ⟨none, 0, by rw [h1, h2]⟩
        · exact ⟨_, _, h1⟩
      have HV := hide hv
      clear hv
      obtain ⟨hpf, hff⟩ := Wd.splitTo_fine s.data.toList (by rw [Wd.len_str]; omega) s.data.toList.length (by rw [Wd.len_str]; omega)
      have hpl := Wd.splitTo_len s.data.toList s.data.toList.length
      rw [show Wd.splitTo s.data.toList s.data.toList.length = Wd.split s.data.toList from rfl] at hpf hff hpl
      rw [Wd.len_str] at hpl
      have HPF := hide hpf
      have HFF := hide hff
      clear hpf hff
      go_wp2_with (first | (refine wpList_alloc55 rfl rfl ?_) | (refine wpList_store_row rfl 167 _ _ rfl _ _ rfl rfl 167 _ (heap_alloc_last _ _) Try.i55 rfl (by rw [HV.out]; exact pgA_one _ _ _ _) ?_))
      have HPG : Hid (PgR ((w2.alloc (.cells (Wd.pgA (.slice none 0 0) fun _ => Wd.fn0) 167)).setRow w2.heap.size (Wd.pgA v (Wd.split s.data.toList).F)) w2.heap.size (Wd.split s.data.toList).ps (Wd.split s.data.toList).F) := by
        refine ⟨v, setRow_heap _ _ _ _ _ _ (heap_alloc_last _ _), ?_, fun g hg => (HO2.out.lt g hg).2⟩
        obtain ⟨a1, a2⟩ := HO2.out
        refine ⟨a1, ?_⟩
        rcases a2 with a2 | ⟨g, cap, cur, hv, hg, hh, r⟩
        · exact .inl a2
        · have := row_lt hh
          exact .inr ⟨g, cap, cur, hv, Nat.zero_le _, by rw [setRow_other _ _ _ _ (by omega), heap_alloc_old _ _ this]; exact hh, r⟩
      have HB3 : Hid (Below w.heap.size w ((w2.alloc (.cells (Wd.pgA (.slice none 0 0) fun _ => Wd.fn0) 167)).setRow w2.heap.size (Wd.pgA v (Wd.split s.data.toList).F))) :=
        below_setRow (HB2.out.alloc HB2.out.size _) HB2.out.size _
      have hwb : w.heap.size ≤ w2.heap.size := HB2.out.size
      generalize (w2.alloc (.cells (Wd.pgA (.slice none 0 0) fun _ => Wd.fn0) 167)).setRow w2.heap.size (Wd.pgA v (Wd.split s.data.toList).F) = W at *
      generalize w2.heap.size = b at *
      refine (faultOfNames_any _ _ b W HPF.out (by omega) HPG.out).mono ?_
      cases hp : Wd.names (Wd.split s.data.toList).F (Wd.split s.data.toList).ps with
      | some i =>
        rintro e w3 ⟨rfl, hb3⟩
        have HB4 := hide (HB3.out.trans (hb3.mono HB3.out.size))
        have HC := hide (Wd.readP_name HL.out HP1.out hp)
        have hne : ((i : Int) != -1) = true := by rw [bne_iff_ne]; omega
        clear hb3 hp
        simp only [Wd.toInt]
        go_wp2_with fail
        go_ret3
        rw [← HRR.out, HC.out]
        exact ⟨HB4.out, rfl⟩
      | none =>
        rintro e w3 ⟨rfl, hb3⟩
        have HB4 := hide (HB3.out.trans (hb3.mono HB3.out.size))
        have HPG3 := hide (HPG.out.below hb3)
        have HP2 := hide hp
        clear hb3 hp HB3 HPG
        simp only [Wd.toInt]
        go_wp2_with fail
        refine (unfoldFunctions_any _ _ b w3 HFF.out HPG3.out).mono ?_
        cases hp : Wd.left (Wd.roundsTo (Wd.split s.data.toList).F 8) with
        | true =>
          rintro e w4 ⟨rfl, hp4, hb4⟩
          have HB5 := hide (HB4.out.trans (hb4.mono hwb))
          have HC := hide (Wd.readP_round HL.out HP1.out HP2.out hp)
          clear hb4 hp hp4
          go_wp2_with fail
          go_ret3
          rw [← HRR.out, HC.out]
          exact ⟨HB5.out, rfl⟩
        | false =>
          rintro e w4 ⟨rfl, hp4, hb4⟩
          have HB5 := hide (HB4.out.trans (hb4.mono hwb))
          have HPG4 := hide hp4
          have HP3 := hide hp
          clear hb4 hp hp4
          go_wp2_with fail
          have HX := unfoldItems_any _ _ b w4 HPF.out (by omega) (Wd.roundsTo_fine HFF.out 8) HPG4.out
          cases hq : Wd.items (Wd.roundsTo (Wd.split s.data.toList).F 8) (Wd.split s.data.toList).ps with
          | error n =>
            rw [hq] at HX
            have HC := hide (Wd.readP_big HL.out HP1.out HP2.out HP3.out hq)
            have hne : ((n : Int) != -1) = true := by rw [bne_iff_ne]; omega
            clear hq
            refine HX.mono ?_
            rintro e w5 ⟨hb5, rfl⟩
            have HB6 := hide (HB5.out.trans (hb5.mono HB5.out.size))
            clear hb5 HX
            go_wp2_with fail
            go_ret3
            rw [← HRR.out, HC.out]
            exact ⟨HB6.out, rfl⟩
          | ok its =>
            rw [hq] at HX
            have HC := hide (Wd.readP_ok HL.out HP1.out HP2.out HP3.out hq)
            clear hq
            refine HX.mono ?_
            rintro e w5 ⟨hb5, g, cp, rfl, hown⟩
            have HB6 := hide (HB5.out.trans (hb5.mono HB5.out.size))
            have HO6 := hide (own_mono hown HB5.out.size)
            clear hb5 hown HX
            go_wp2_with fail
            go_ret3
            rw [← HRR.out, HC.out]
            exact ⟨HB6.out, g, cp, rfl, HO6.out⟩

theorem sourceCheck_any (s : ByteArray) (w : World) (hs : s.size ≤ maxLen) :
    Calls Try.prog 43 #[.string s] w fun e w' => e = .returned (.tuple #[.int .i64 (Wd.checkP s.data.toList).1, .int .i64 (Wd.checkP s.data.toList).2]) ∧ Below w.heap.size w w' := by
  have HX := read_any s w hs
  unfold Wd.checkP
  cases hq : Wd.readP s.data.toList with
  | error x =>
    rw [hq] at HX
    have HXX := hide HX
    clear HX hq
    go_enter Try.func43, Try.ntmps43
    go_wp2_with (go_at_call 72; refine HXX.out.mono ?_; rintro e w' ⟨hb, rfl⟩)
    go_ret2
    exact ⟨rfl, hb⟩
  | ok its =>
    rw [hq] at HX
    have HXX := hide HX
    clear HX hq
    go_enter Try.func43, Try.ntmps43
    go_wp2_with (go_at_call 72; refine HXX.out.mono ?_; rintro e w' ⟨hb, g, cp, rfl, hown⟩)
    go_ret2
    exact ⟨rfl, hb⟩

theorem check_any (s : ByteArray) (w : World) (hs : s.size ≤ maxLen) :
    Calls Try.prog 14 #[.string s] w fun e w' => e = .returned (.tuple #[.int .i64 (Wd.checkP s.data.toList).1, .int .i64 (Wd.checkP s.data.toList).2]) ∧ Below w.heap.size w w' := by
  go_enter Try.func14, Try.ntmps14
  go_wp2_with (go_at_call 43; refine (sourceCheck_any _ _ hs).mono ?_; rintro e w' ⟨rfl, hb⟩)
  go_ret2
  exact ⟨rfl, hb⟩
end Go.Proofs.Ytecmfdkhcffpmaa
