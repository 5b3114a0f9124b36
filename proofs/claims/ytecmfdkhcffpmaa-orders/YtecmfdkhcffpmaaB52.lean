/- DocL, LawA. -/
import Derived.Test.YtecmfdkhcffpmaaB45
import Derived.Laws.AppendOwnNone
import Derived.Test.YtecmfdkhcffpmaaB47
import Derived.Test.YtecmfdkhcffpmaaB48
import Derived.Test.YtecmfdkhcffpmaaB51
import Derived.Deep.QuietTactic
import Derived.BigQuiet
/- Contracts of the document's calls: Analyse, Edges. -/
namespace Go.Proofs.Ytecmfdkhcffpmaa
open Go.RowKit
set_option linter.unusedSimpArgs false
set_option linter.unusedVariables false
set_option maxHeartbeats 8000000
open Mc

/-- One list of reports is laid behind another, whatever it is. -/
theorem wpList_more {ops : Array Oper} {rest : List Oper} {o : Oper} {a : Act} {w : World} {Q : Exit → Act → World → Prop} (hgd : o.guard = none) (s x : Operand)
    (ho : o.op = .call { callee := .builtin .append, args := #[s, x], argTypes := #[35, 35] })
    (w0 : World) (v : Value) (X Y : List Rp) (hs : a.eval s = v) (b : Nat) (ao : Option Addr) (cc : Nat) (hx : a.eval x = .slice ao Y.length cc) (hX : RepI w0 w v X) (hY : w.ownsRow b 41 3 (.slice ao Y.length cc) Y.length (Y.flatMap rpV)) (hl : X.length + Y.length ≤ 100000)
    (h : ∀ ao' cc' w', RepI w0 w' (.slice ao' (X ++ Y).length cc') (X ++ Y) → (∀ j, j < w.heap.size → v.ownBlock ≠ some j → w'.heap[j]? = w.heap[j]?) → w.heap.size ≤ w'.heap.size → wpList Try.prog ops Q rest (a.put o.dst (.slice ao' (X ++ Y).length cc')) w') :
    wpList Try.prog ops Q (o :: rest) a w := by
  obtain ⟨i0, hj0, hz0, hz1, hz2⟩ := info_parts Try.infoRep
  rcases hY.2 with ⟨e1, e2⟩ | ⟨g, cap, cur, e1, hb, hg, h1, h2, h3, h4⟩
  · have hY0 : Y = [] := List.length_eq_zero_iff.1 e2
    subst hY0
    obtain ⟨ax, cx, rfl⟩ := own_v hX.own
    refine wpList_append_own_none hgd s x 35 ho w0.heap.size 41 i0 3 Try.underlying35 hj0 _ X.length (X.flatMap rpV) hs hX.own (by rw [hx]; exact e1) ?_
    have := h ax cx w (by simpa using hX) (fun _ _ _ => rfl) (Nat.le_refl _)
    simpa using this
  · have e1' : ao = some ⟨g, 0, none⟩ := by injection e1
    subst e1'
    refine wpList_append_own_at w hgd s x 35 ho w0.heap.size 41 i0 _ 3 24 Try.underlying35 hj0 hz0 hz1 hz2 rfl (by decide) v X.length (X.flatMap rpV) hs hX.own ⟨g, 0, none⟩ Y.length cc (Y.flatMap rpV) hx (by rw [flat_len rpV_len]) ?_ ?_ (by unfold maxLen; omega) (by omega) hX.b.size ?_
    · intro j u hj
      have hjl := (List.getElem?_eq_some_iff.1 hj).1
      rw [← h4, List.getElem?_take] at hj
      split at hj
      · rw [Array.getElem?_toList] at hj
        have := row_cell hg hj
        rw [Addr.add_mid]; simpa using this
      · cases hj
    · intro u hu
      obtain ⟨r, hr, hu⟩ := List.mem_flatMap.1 hu
      simp [rpV] at hu
      rcases hu with rfl | rfl | rfl <;> rfl
    · intro v' w' hown hgr hnil hat
      obtain ⟨ao', cc', rfl⟩ := own_v hown
      have e2 : X.length + Y.length = (X ++ Y).length := by simp
      have e3 : X.flatMap rpV ++ Y.flatMap rpV = (X ++ Y).flatMap rpV := by simp
      rw [e2, e3] at hown
      rw [e2]
      refine h ao' cc' w' ⟨hown, hX.b.grown hgr hX.b.size (fun q hq => (own_lt0 hX.own hq).1)⟩ (fun j hj hn => hgr.block j hj (fun e => hn e.symm)) hgr.size
theorem soloS_doc (its : List Wd.It) (hf : Fine its) : solos (fndP its) (lenD its) its.length 5 = soloS its := by
  unfold soloS
  refine solos_congrN _ _ _ _ _ _ (fun i hi => rfl) (fun k hk i hi p hp => ?_)
  exact (open Classical in bool_iff (fndTo_iff _ _ (hf.gb hi) (k + 1) p))
set_option maxRecDepth 100000 in
theorem danalyse_err (s : ByteArray) (w : World) (x : Int × Int) (hs : s.size ≤ maxLen) (hread : Wd.readP s.data.toList = .error x) :
    Calls Try.prog 22 #[.string s] w fun e w' => e = .returned (.tuple #[.slice none 0 0, .int .i64 x.1]) ∧ Below w.heap.size w w' := by
  have hx := Wd.readP_err hread
  have HX := known_any s w hs
  rw [hread] at HX
  have HXX := hide HX
  clear HX hread
  go_enter Try.func22, Try.ntmps22
  go_wp2_with (go_at_call 59; refine HXX.out.mono ?_; rintro e w1 ⟨hb1, rfl⟩; have HB1 := hide hb1; clear hb1)
  go_ret2
  exact ⟨rfl, HB1.out⟩
set_option maxRecDepth 100000 in
theorem danalyse_ok (s : ByteArray) (w : World) (its : List Wd.It) (hs : s.size ≤ maxLen) (hread : Wd.readP s.data.toList = .ok its) :
    Calls Try.prog 22 #[.string s] w fun e w' => ∃ ao cc, e = .returned (.tuple #[.slice ao (analyseS its).length cc, .int .i64 0]) ∧ RepI w w' (.slice ao (analyseS its).length cc) (analyseS its) := by
  have HF := hide (fine_of hread)
  have hl8 := HF.out.len
  have HX := known_any s w hs
  rw [hread] at HX
  have HXX := hide HX
  clear HX hread
  have HAE : Hid (soloS its ++ ringL (fwK (edgeS its) 6) 6 ++ raceS its = analyseS its) := hide rfl
  have HSD := hide (soloS_doc its HF.out)
  have h2 := ringL_len (fwK (edgeS its) 6) 6
  have h3 : (raceS its).length ≤ 4 := by rw [← raceL_doc its HF.out]; exact raceL_len _ 4
  have HSL : Hid (∀ n, n ≤ 5 → (solos (fndP its) (lenD its) its.length n).length ≤ 20000 ∧ (soloK (fndP its) (lenD its) (n + 1) its.length).length ≤ 3000) := hide (fun n hn => by
    have hle : ∀ i, i < its.length → lenD its i ≤ 301 := fun i hi => by have := HF.out.short i hi; unfold lenD; omega
    have a1 := solos_len (fndP its) (lenD its) its.length n hle
    have a2 := soloK_len (fndP its) (lenD its) (n + 1) its.length hle
    have a3 : n * (its.length * 301) ≤ 5 * (8 * 301) := Nat.mul_le_mul (by omega) (Nat.mul_le_mul_right _ hl8)
    have a4 : its.length * 301 ≤ 8 * 301 := Nat.mul_le_mul_right _ hl8
    omega)
  go_enter Try.func22, Try.ntmps22
  go_wp2_with (go_at_call 59; refine HXX.out.mono ?_; rintro e w1 ⟨hb1, ia, ic, da, dc, D, rfl, hdk⟩; have HB1 := hide hb1; have HDK := hide hdk; clear hb1 hdk)
  have HR0 := hide (RepI.nil w1)
  go_loopw [7, 8] (fun a d wr => ∃ (n : Nat) (X : List Rp), n ≤ 5 ∧ d = .int .i64 ((n : Int) + 1) ∧ X = solos (fndP its) (lenD its) its.length n ∧ RepI w1 wr a X) (fun _ d _ => 6 - (intOf d).toNat)
  case atStart => exact ⟨0, [], by omega, rfl, rfl, HR0.out⟩
  case round =>
    clear HR0
    obtain ⟨n, X, hn, rfl, hX, hr⟩ := hrel
    have HR := hide hr
    have HX := hide hX
    clear hr hX
    obtain ⟨ao, cc, hv⟩ := own_v HR.out.own
    subst hv
    have hnI : (n : Int) ≤ 5 := by omega
    have hln := HSL.out n hn
    have hXl : X.length ≤ 20000 := by rw [HX.out]; exact hln.1
    by_cases hnt : n < 5
    · have hn4 : (n : Int) + 1 ≤ 5 := by omega
      have ASo : Hid (Calls Try.prog 60 #[.slice ia its.length ic, .slice da its.length dc, .int .i64 ((n : Int) + 1)] wr fun e w' => ∃ ao cc, e = .returned (.slice ao (soloK (fndP its) (lenD its) (n + 1) its.length).length cc) ∧ RepI wr w' (.slice ao (soloK (fndP its) (lenD its) (n + 1) its.length).length cc) (soloK (fndP its) (lenD its) (n + 1) its.length)) := hide (solo_any wr its ia da ic dc D (n + 1) (by omega) (HDK.out.below HR.out.b))
      have HSS := hide (solos_succ (fndP its) (lenD its) its.length n)
      have hYl := hln.2
      clear hln
      generalize soloK (fndP its) (lenD its) (n + 1) its.length = Y at *
      go_wp2_with (first | (at_builtin; refine wpList_more rfl _ _ rfl w1 _ X Y rfl _ _ _ rfl (HR2.out) (HY2.out) ?_ ?_; (omega); intro ao' cc' w3 hrep' hsame' hsz'; obtain ⟨Zw3, hZ⟩ : ∃ Z, X ++ Y = Z := ⟨_, rfl⟩; rw [hZ] at hrep' ⊢; have HZw3 := hide hZ; have HRPw3 := hide hrep'; clear hrep' hsame' hsz' hZ) | (go_at_call 60; refine (ASo.out).mono ?_; rintro e w2 ⟨ao2, cc2, rfl, hr2⟩; have HR2 := hide (HR.out.below hr2.b); have HY2 := hide hr2.own; clear hr2))
      go_round
      case measure => simp [intOf]; omega
      case rel => exact ⟨n + 1, _, by omega, by go_num, by rw [HSS.out, ← HX.out, HZw3.out], HRPw3.out⟩
    · have e : n = 5 := by omega
      subst e
      rw [HSD.out] at HX
      have hX2 := HX.out
      subst hX2
      have AE := hide (dedges_any wr its ia da ic dc D (HDK.out.below HR.out.b))
      obtain ⟨T, hT⟩ : ∃ T, edgeS its = T := ⟨_, rfl⟩
      have HTE := hide hT
      rw [hT] at HAE h2
      clear hT
      have AR := hide (fun W => drings_any T W)
      have AC := hide (fun W hb => draces_any W its ia da ic dc D (HDK.out.below hb))
      generalize ringL (fwK T 6) 6 = S2 at *
      generalize raceS its = S3 at *
      generalize soloS its = S1 at *
      go_wp2_with (first | (at_builtin; refine wpList_more rfl _ _ rfl w1 _ Zw5 S3 rfl _ _ _ rfl (HR6.out) (HY6.out) ?_ ?_; (rw [← HZw5.out, List.length_append]; omega); intro ao' cc' w7 hrep' hsame' hsz'; obtain ⟨Zw7, hZ⟩ : ∃ Z, Zw5 ++ S3 = Z := ⟨_, rfl⟩; rw [hZ] at hrep' ⊢; have HZw7 := hide hZ; have HRPw7 := hide hrep'; clear hrep' hsame' hsz' hZ) | (go_at_call 63; refine (AC.out _ HRPw5.out.b).mono ?_; rintro e w6 ⟨ao6, cc6, rfl, hr6⟩; have HR6 := hide (HRPw5.out.below hr6.b); have HY6 := hide hr6.own; clear hr6) | (at_builtin; refine wpList_more rfl _ _ rfl w1 _ S1 S2 rfl _ _ _ rfl (HR4.out) (HY4.out) ?_ ?_; (omega); intro ao' cc' w5 hrep' hsame' hsz'; obtain ⟨Zw5, hZ⟩ : ∃ Z, S1 ++ S2 = Z := ⟨_, rfl⟩; rw [hZ] at hrep' ⊢; have HZw5 := hide hZ; have HRPw5 := hide hrep'; clear hrep' hsame' hsz' hZ) | (go_at_call 62; refine (AR.out _).mono ?_; rintro e w4 ⟨ao4, cc4, rfl, hr4⟩; have HR4 := hide (HR3.out.below hr4.b); have HY4 := hide hr4.own; clear hr4) | (refine wpList_load_row rfl 92 _ rfl _ rfl 92 (tbA T) (0, 0) _ ?_ Try.underlying92 rfl (Try.iTbD _) ?_; (exact HT3.out.raw)) | (refine wpList_store_row rfl 92 _ _ rfl w2.heap.size (tbA T) rfl rfl 92 (tbA (fun _ _ => false)) ?_ (Try.iTbD _) (by rw [tbA_size, tbA_size]) (tbA_one _) ?_; (exact (Row.new w2 (tbA (fun _ _ => false)) 92).raw); rw [World.setRow_alloc_new]; have HR3 := hide (HR2.out.below (below_one w2 (.cells (tbA T) 92))); have HT3 := hide (Row.new w2 (tbA T) 92); generalize w2.alloc (.cells (tbA T) 92) = w3 at *) | (refine wpList_allocD rfl rfl ?_) | (go_at_call 61; refine AE.out.mono ?_; rintro e w2 ⟨rfl, hb2⟩; rw [HTE.out]; have HR2 := hide (HR.out.below hb2); clear hb2))
      go_ret2
      have hfz : analyseS its = Zw7 := by rw [← HAE.out, HZw5.out, HZw7.out]
      exact ⟨ao', cc', by rw [hfz]; rfl, by rw [hfz]; exact ⟨own_mono HRPw7.out.own HB1.out.size, below_go HB1.out HRPw7.out.b⟩⟩
theorem danalyse_any (s : ByteArray) (w : World) (hs : s.size ≤ maxLen) : Calls Try.prog 22 #[.string s] w (RPost w (Wd.readP s.data.toList)) := by
  cases hr : Wd.readP s.data.toList with
  | ok its =>
    refine (danalyse_ok s w its hs hr).mono ?_
    rintro e w' ⟨ao, cc, rfl, h⟩
    exact ⟨h.b, ao, cc, rfl, h.own⟩
  | error x =>
    refine (danalyse_err s w x hs hr).mono ?_
    rintro e w' ⟨rfl, hb⟩
    exact ⟨hb, rfl⟩
set_option maxRecDepth 100000 in
theorem dEdges_err (s : ByteArray) (w : World) (x : Int × Int) (hs : s.size ≤ maxLen) (hread : Wd.readP s.data.toList = .error x) :
    Calls Try.prog 27 #[.string s] w fun e w' => e = .returned (.tuple #[.slice none 0 0, .int .i64 x.1]) ∧ Below w.heap.size w w' := by
  have hx := Wd.readP_err hread
  have HX := known_any s w hs
  rw [hread] at HX
  have HXX := hide HX
  clear HX hread
  go_enter Try.func27, Try.ntmps27
  go_wp2_with (go_at_call 59; refine HXX.out.mono ?_; rintro e w1 ⟨hb1, rfl⟩; have HB1 := hide hb1; clear hb1)
  go_ret2
  exact ⟨rfl, HB1.out⟩
set_option maxRecDepth 100000 in
theorem dEdges_ok (s : ByteArray) (w : World) (its : List Wd.It) (hs : s.size ≤ maxLen) (hread : Wd.readP s.data.toList = .ok its) :
    Calls Try.prog 27 #[.string s] w fun e w' => ∃ ao cc, e = .returned (.tuple #[.slice ao (edgeL (edgeS its) 6).length cc, .int .i64 0]) ∧ EdI w w' (.slice ao (edgeL (edgeS its) 6).length cc) (edgeL (edgeS its) 6) := by
  have HX := known_any s w hs
  rw [hread] at HX
  have HXX := hide HX
  clear HX hread
  obtain ⟨F, hF⟩ : ∃ F, edgeS its = F := ⟨_, rfl⟩
  have HTE := hide hF
  rw [hF]
  clear hF
  obtain ⟨i0, hj0, hz0, hz1, hz2⟩ := info_parts Try.infoEd
  go_enter Try.func27, Try.ntmps27
  go_wp2_with (first | (refine wpList_store_row rfl 92 _ _ rfl w2.heap.size (tbA F) rfl rfl 92 (tbA (fun _ _ => false)) ?_ (Try.iTbD _) (by rw [tbA_size, tbA_size]) (tbA_one _) ?_; (exact (Row.new w2 (tbA (fun _ _ => false)) 92).raw); rw [World.setRow_alloc_new]; have HB3 := hide (below_new HB2.out (.cells (tbA F) 92)); have HT3 := hide (Row.new w2 (tbA F) 92); have hgt : w.heap.size ≤ w2.heap.size := HB2.out.size; generalize w2.alloc (.cells (tbA F) 92) = w3 at *; generalize w2.heap.size = gt at *) | (refine wpList_allocD rfl rfl ?_) | (go_at_call 61; refine AE.out.mono ?_; rintro e w2 ⟨rfl, hb2⟩; rw [HTE.out]; have HB2 := hide (below_go HB1.out hb2); clear hb2) | (go_at_call 59; refine HXX.out.mono ?_; rintro e w1 ⟨hb1, ia, ic, da, dc, D, rfl, hdk⟩; have HB1 := hide hb1; have AE := hide (dedges_any w1 its ia da ic dc D hdk); clear hb1 hdk))
  go_loopw [8, 9] (fun a c wr => ∃ l : Nat, l ≤ 6 ∧ c = .int .i64 l ∧ Row wr gt (tbA F) 92 ∧ wr.ownsRow (gt + 1) 50 2 a (edgeL F l).length ((edgeL F l).flatMap edV) ∧ Below w.heap.size w wr) (fun _ c _ => 6 - (intOf c).toNat)
  case atStart => exact ⟨0, by omega, rfl, HT3.out, World.ownsRow_nil _ _ _ _, HB3.out⟩
  case round =>
    clear HT3 HB3
    obtain ⟨l, hl, rfl, h1, h2, h3⟩ := hrel
    have H1 := hide h1
    have H2 := hide h2
    have H3 := hide h3
    clear h1 h2 h3
    obtain ⟨ao, cc, hv⟩ := own_v H2.out
    subst hv
    by_cases hlt : l < 6
    · have hl0 : (0 : Int) ≤ (l : Int) := by omega
      have hlI : (l : Int) < 6 := by omega
      have hlen0 := edgeL_len F l
      go_wp2
      go_loopw [8, 10] (fun a c wr => ∃ (m : Nat) (X : List (Int × Int)), m ≤ 6 ∧ c = .int .i64 m ∧ X = edgeL F l ++ edgeRow F l m ∧ Row wr gt (tbA F) 92 ∧ wr.ownsRow (gt + 1) 50 2 a X.length (X.flatMap edV) ∧ Below w.heap.size w wr) (fun _ c _ => 6 - (intOf c).toNat)
      case atStart => exact ⟨0, _, by omega, rfl, rfl, H1.out, by rw [edgeRow_zero, List.append_nil]; exact H2.out, H3.out⟩
      case round =>
        clear H1 H2 H3
        obtain ⟨m, X, hm, rfl, hX, h1, h2, h3⟩ := hrel
        have H1 := hide h1
        have H2 := hide h2
        have H3 := hide h3
        have HX := hide hX
        clear h1 h2 h3 hX
        obtain ⟨ao, cc, hv⟩ := own_v H2.out
        subst hv
        have hlt1 := H1.out.lt
        by_cases hmt : m < 6
        · have hm0 : (0 : Int) ≤ (m : Int) := by omega
          have hlen := edgeRow_len F l m
          have hlen1 : X.length ≤ 50 := by rw [HX.out, List.length_append]; omega
          have c1 : wr.cell? ⟨gt, l * 6 + m, none⟩ = some (.bool (F l m)) := H1.out.cell _ (tbA_at _ _ _ hlt hmt)
          have hyes := hide (edgeRow_yes F l m)
          have hno := hide (edgeRow_no F l m)
          generalize F l m = o at *
          cases o
          · go_wp2
            go_round
            case measure => simp [intOf]; omega
            case rel => exact ⟨m + 1, X, by omega, by go_num, by rw [hno.out (by first | rfl | trivial)]; exact HX.out, H1.out, H2.out, H3.out⟩
          · go_wp2_with (first | (at_builtin; refine wpList_push (f := edV) edV_len rfl _ _ 45 rfl (gt + 1) 50 i0 _ 16 Try.underlying45 hj0 hz0 hz1 hz2 rfl (by decide) _ X (((l : Nat) : Int), ((m : Nat) : Int)) rfl ⟨_, 0, none⟩ rfl ?_ ?_ ?_ ?_ ?_ ?_ ?_; (exact H2.out.alloc _); (exact newsL _ _ _); (intro x hx; simp [edV] at hx; rcases hx with rfl | rfl <;> rfl); (unfold maxLen; omega); (omega); (simp; omega); intro ao' cc' w5 hown' hbel' hsame' hat'; have HOw5 := hide hown'; have HBLw5 := hide hbel'; clear hown' hbel' hsame' hat'))
            go_round
            case measure => simp [intOf]; omega
            case rel => exact ⟨m + 1, _, by omega, by go_num, by rw [hyes.out (by first | rfl | trivial), ← List.append_assoc, ← HX.out], H1.out.same (by rw [HBLw5.out.block _ (by omega), heap_alloc_old _ _ hlt1]), HOw5.out, (H3.out.alloc H3.out.size _).trans (HBLw5.out.mono (by omega))⟩
        · have e : m = 6 := by omega
          subst e
          go_wp2
          go_round
          case measure => simp [intOf]; omega
          case rel => exact ⟨l + 1, by omega, by go_num, H1.out, by rw [edgeL_succ, ← HX.out]; exact H2.out, H3.out⟩
    · have e : l = 6 := by omega
      subst e
      go_wp2
      go_ret2
      exact ⟨ao, cc, rfl, own_mono H2.out (by omega), H3.out⟩
theorem dEdges_any (s : ByteArray) (w : World) (hs : s.size ≤ maxLen) : Calls Try.prog 27 #[.string s] w (EPost w (Wd.readP s.data.toList)) := by
  cases hr : Wd.readP s.data.toList with
  | ok its =>
    refine (dEdges_ok s w its hs hr).mono ?_
    rintro e w' ⟨ao, cc, rfl, h⟩
    exact ⟨h.b, ao, cc, rfl, h.own⟩
  | error x =>
    refine (dEdges_err s w x hs hr).mono ?_
    rintro e w' ⟨rfl, hb⟩
    exact ⟨hb, rfl⟩
end Go.Proofs.Ytecmfdkhcffpmaa
/- Contracts of the calls, and of what the laws compare with. -/
namespace Go.Proofs.Ytecmfdkhcffpmaa
open Go.RowKit
set_option linter.unusedSimpArgs false
set_option linter.unusedVariables false
set_option maxHeartbeats 8000000
open Mc

theorem wAnalyse_any (s : ByteArray) (w : World) (hs : s.size ≤ maxLen) : Calls Try.prog 21 #[.string s] w (RPost w (Wd.readP s.data.toList)) := by
  have HX := panalyse_any s w hs
  cases hq : Wd.readP s.data.toList with
  | error x =>
    rw [hq] at HX
    have HXX := hide HX
    clear HX hq
    go_enter Try.func21, Try.ntmps21
    go_wp2_with (go_at_call 58; refine HXX.out.mono ?_; rintro e w' ⟨hb, rfl⟩)
    go_ret2
    exact ⟨hb, rfl⟩
  | ok its =>
    rw [hq] at HX
    have HXX := hide HX
    clear HX hq
    go_enter Try.func21, Try.ntmps21
    go_wp2_with (go_at_call 58; refine HXX.out.mono ?_; rintro e w' ⟨hb, ao, cc, rfl, hown⟩)
    go_ret2
    exact ⟨hb, ao, cc, rfl, hown⟩
theorem wEdges_any (s : ByteArray) (w : World) (hs : s.size ≤ maxLen) : Calls Try.prog 28 #[.string s] w (EPost w (Wd.readP s.data.toList)) := by
  have HX := pEdges_any s w hs
  cases hq : Wd.readP s.data.toList with
  | error x =>
    rw [hq] at HX
    have HXX := hide HX
    clear HX hq
    go_enter Try.func28, Try.ntmps28
    go_wp2_with (go_at_call 67; refine HXX.out.mono ?_; rintro e w' ⟨hb, rfl⟩)
    go_ret2
    exact ⟨hb, rfl⟩
  | ok its =>
    rw [hq] at HX
    have HXX := hide HX
    clear HX hq
    go_enter Try.func28, Try.ntmps28
    go_wp2_with (go_at_call 67; refine HXX.out.mono ?_; rintro e w' ⟨hb, ao, cc, rfl, hown⟩)
    go_ret2
    exact ⟨hb, ao, cc, rfl, hown⟩
set_option maxRecDepth 100000 in
set_option maxHeartbeats 8000000 in
theorem sameReports_eq (R : List Rp) (v1 v2 : Value) (w : World) (b1 b2 : Nat) (hl : R.length ≤ 100000) (h1 : w.ownsRow b1 41 3 v1 R.length (R.flatMap rpV)) (h2 : w.ownsRow b2 41 3 v2 R.length (R.flatMap rpV)) :
    Calls Try.prog 24 #[v1, v2] w fun e w' => e = .returned (.bool true) ∧ Below w.heap.size w w' := by
  have HO1 := hide h1
  have HO2 := hide h2
  obtain ⟨ao, cap1, rfl⟩ := own_v h1
  obtain ⟨bo, cap2, rfl⟩ := own_v h2
  clear h1 h2
  have hne : (((R.length : Nat) : Int) != ((R.length : Nat) : Int)) = false := by simp
  go_enter Try.func24, Try.ntmps24
  go_wp2
  go_loopw [5] (fun a wr => ∃ k : Nat, k ≤ R.length ∧ a = .int .i64 k ∧ Below w.heap.size w wr) (fun a _ => R.length - (intOf a).toNat)
  case atStart => exact ⟨0, Nat.zero_le _, rfl, Below.refl _ _⟩
  case round =>
    obtain ⟨k, hk, rfl, hbe⟩ := hrel
    have HB := hide hbe
    clear hbe
    by_cases hlt : k < R.length
    · obtain ⟨g1, c1, hv1, _, hg1, _, _, hr1⟩ := own_el rpV_len HO1.out (List.getElem?_eq_getElem hlt)
      obtain ⟨g2, c2, hv2, _, hg2, _, _, hr2⟩ := own_el rpV_len HO2.out (List.getElem?_eq_getElem hlt)
      cases hv1
      cases hv2
      have d0 := (HB.out.cell (p := ⟨g1, k * 3, none⟩) hg1).trans (hr1 0 _ rfl)
      have e0 := (HB.out.cell (p := ⟨g2, k * 3, none⟩) hg2).trans (hr2 0 _ rfl)
      have d1 := (HB.out.cell (p := ⟨g1, k * 3 + 1, none⟩) hg1).trans (hr1 1 _ rfl)
      have e1 := (HB.out.cell (p := ⟨g2, k * 3 + 1, none⟩) hg2).trans (hr2 1 _ rfl)
      have d2 := (HB.out.cell (p := ⟨g1, k * 3 + 2, none⟩) hg1).trans (hr1 2 _ rfl)
      have e2 := (HB.out.cell (p := ⟨g2, k * 3 + 2, none⟩) hg2).trans (hr2 2 _ rfl)
      clear hr1 hr2
      generalize R[k] = r at *
      have b0 : ((r.1) != (r.1)) = false := by simp
      have b1 : ((r.2.1) != (r.2.1)) = false := by simp
      have b2 : ((r.2.2) != (r.2.2)) = false := by simp
      have hki : (k : Int) < (R.length : Int) := by omega
      have hk0 : (0 : Int) ≤ (k : Int) := by omega
      go_wp2_with fail
      go_quiet (fail)
      go_wp2
      exact ⟨⟨k + 1, by omega, by go_num, below_drewN HB.out _⟩, by simp [intOf]; omega⟩
    · go_wp2
      go_ret
      exact ⟨rfl, HB.out⟩
set_option maxRecDepth 100000 in
set_option maxHeartbeats 8000000 in
theorem sameEdges_eq (R : List (Int × Int)) (v1 v2 : Value) (w : World) (b1 b2 : Nat) (hl : R.length ≤ 100000) (h1 : w.ownsRow b1 50 2 v1 R.length (R.flatMap edV)) (h2 : w.ownsRow b2 50 2 v2 R.length (R.flatMap edV)) :
    Calls Try.prog 29 #[v1, v2] w fun e w' => e = .returned (.bool true) ∧ Below w.heap.size w w' := by
  have HO1 := hide h1
  have HO2 := hide h2
  obtain ⟨ao, cap1, rfl⟩ := own_v h1
  obtain ⟨bo, cap2, rfl⟩ := own_v h2
  clear h1 h2
  have hne : (((R.length : Nat) : Int) != ((R.length : Nat) : Int)) = false := by simp
  go_enter Try.func29, Try.ntmps29
  go_wp2
  go_loopw [5] (fun a wr => ∃ k : Nat, k ≤ R.length ∧ a = .int .i64 k ∧ Below w.heap.size w wr) (fun a _ => R.length - (intOf a).toNat)
  case atStart => exact ⟨0, Nat.zero_le _, rfl, Below.refl _ _⟩
  case round =>
    obtain ⟨k, hk, rfl, hbe⟩ := hrel
    have HB := hide hbe
    clear hbe
    by_cases hlt : k < R.length
    · obtain ⟨g1, c1, hv1, _, hg1, _, _, hr1⟩ := own_el edV_len HO1.out (List.getElem?_eq_getElem hlt)
      obtain ⟨g2, c2, hv2, _, hg2, _, _, hr2⟩ := own_el edV_len HO2.out (List.getElem?_eq_getElem hlt)
      cases hv1
      cases hv2
      have d0 := (HB.out.cell (p := ⟨g1, k * 2, none⟩) hg1).trans (hr1 0 _ rfl)
      have e0 := (HB.out.cell (p := ⟨g2, k * 2, none⟩) hg2).trans (hr2 0 _ rfl)
      have d1 := (HB.out.cell (p := ⟨g1, k * 2 + 1, none⟩) hg1).trans (hr1 1 _ rfl)
      have e1 := (HB.out.cell (p := ⟨g2, k * 2 + 1, none⟩) hg2).trans (hr2 1 _ rfl)
      clear hr1 hr2
      generalize R[k] = r at *
      have b0 : ((r.1) != (r.1)) = false := by simp
      have b1 : ((r.2) != (r.2)) = false := by simp
      have hki : (k : Int) < (R.length : Int) := by omega
      have hk0 : (0 : Int) ≤ (k : Int) := by omega
      go_wp2_with fail
      go_quiet (fail)
      go_wp2
      exact ⟨⟨k + 1, by omega, by go_num, below_drewN HB.out _⟩, by simp [intOf]; omega⟩
    · go_wp2
      go_ret
      exact ⟨rfl, HB.out⟩
end Go.Proofs.Ytecmfdkhcffpmaa
