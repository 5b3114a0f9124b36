/- StL, StQ, DocL, FnB. -/
import Derived.Test.YtecmfdkhcffpmaaB42
import Derived.Test.YtecmfdkhcffpmaaB45
import Derived.Test.YtecmfdkhcffpmaaB49
import Derived.Laws.AppendOwnNone
import Derived.Test.YtecmfdkhcffpmaaB51
import Derived.Test.YtecmfdkhcffpmaaB47
import Derived.Test.YtecmfdkhcffpmaaB41
/- Contracts of the program's reports: Edges. -/
namespace Go.Proofs.Ytecmfdkhcffpmaa
open Go.RowKit
set_option linter.unusedSimpArgs false
set_option linter.unusedVariables false
set_option maxHeartbeats 8000000
open Mc

def edV (r : Int × Int) : List Value := [.int .i64 r.1, .int .i64 r.2]
/-- An own list of edges. -/
structure EdI (w W : World) (v : Value) (L : List (Int × Int)) : Prop where
  own : W.ownsRow w.heap.size 50 2 v L.length (L.flatMap edV)
  b : Below w.heap.size w W
theorem EdI.new (w : World) : EdI w (w.alloc (.cells #[] 50)) (.slice (some ⟨w.heap.size, 0, none⟩) 0 0) [] := ⟨own_nilA w _ _ _ (Nat.le_refl _), below_one _ _⟩
theorem EdI.below {w W W' : World} {v : Value} {L : List (Int × Int)} (h : EdI w W v L) (hb : Below W.heap.size W W') : EdI w W' v L := ⟨own_same h.own (fun j _ hl => hb.block j hl), below_go h.b hb⟩
theorem EdI.push {w W W' : World} {v v' : Value} {L : List (Int × Int)} {r : Int × Int} {o : Obj} (h : EdI w W v L) (ho : W'.ownsRow w.heap.size 50 2 v' (L ++ [r]).length ((L ++ [r]).flatMap edV)) (hb : Below w.heap.size (W.alloc o) W') : EdI w W' v' (L ++ [r]) := ⟨ho, (h.b.alloc h.b.size o).trans hb⟩
end Go.Proofs.Ytecmfdkhcffpmaa
/- Contracts of the program's reports: of items alone; all reports. -/
namespace Go.Proofs.Ytecmfdkhcffpmaa
open Go.RowKit
set_option linter.unusedSimpArgs false
set_option linter.unusedVariables false
set_option maxHeartbeats 8000000
open Mc

structure AlI (w W : World) (K : List Kn) (v : Value) (M : List Ki) : Prop where
  own : W.ownsRow w.heap.size 64 1 v M.length (M.flatMap kiV)
  each : ∀ m ∈ M, Blk W m.g m.n (fun p => .int .i64 (m.f p)) ∧ m.n ≤ 301 ∧ v.ownBlock ≠ some m.g
  at_ : ∀ (i : Nat) (m : Ki), M[i]? = some m → ∃ k, K[i]? = some k ∧ m.n = k.s.size + 1 ∧ m.f = kAt k.hd k.s.data.toList k.L
  b : Below w.heap.size w W
theorem AlI.below {w W W' : World} {K : List Kn} {v : Value} {M : List Ki} (h : AlI w W K v M) (hb : Below W.heap.size W W') : AlI w W' K v M := ⟨own_same h.own (fun j _ hl => hb.block j hl), fun m hm => ⟨(h.each m hm).1.below hb, (h.each m hm).2⟩, h.at_, below_go h.b hb⟩
theorem AlI.new (w : World) (K : List Kn) : AlI w (w.alloc (.cells #[] 64)) K (.slice (some ⟨w.heap.size, 0, none⟩) 0 0) [] := ⟨own_nilA w _ _ _ (Nat.le_refl _), fun m hm => (by cases hm), fun i m hm => (by cases hm), below_one _ _⟩
theorem AlI.push {w W W' : World} {K : List Kn} {v v' : Value} {M : List Ki} {m : Ki} {k : Kn} {o : Obj} (h : AlI w W K v M) (hk : K[M.length]? = some k) (hm1 : m.n = k.s.size + 1) (hm2 : m.f = kAt k.hd k.s.data.toList k.L) (h301 : m.n ≤ 301) (hbl : Blk W m.g m.n (fun p => .int .i64 (m.f p))) (hne : v.ownBlock ≠ some m.g) (ho : W'.ownsRow w.heap.size 64 1 v' (M ++ [m]).length ((M ++ [m]).flatMap kiV)) (hb : Below w.heap.size (W.alloc o) W') (hs : ∀ j, j < (W.alloc o).heap.size → v.ownBlock ≠ some j → W'.heap[j]? = (W.alloc o).heap[j]?) (hat : v'.ownBlock = v.ownBlock ∨ v'.ownBlock = some (W.alloc o).heap.size) : AlI w W' K v' (M ++ [m]) := by
  have key : ∀ x : Ki, Blk W x.g x.n (fun p => .int .i64 (x.f p)) → v.ownBlock ≠ some x.g → Blk W' x.g x.n (fun p => .int .i64 (x.f p)) ∧ v'.ownBlock ≠ some x.g := by
    intro x hx hn
    have hlt := hx.lt
    refine ⟨hx.same ?_, fun e => ?_⟩
    · rw [hs x.g (by simp; omega) hn, heap_alloc_old _ _ hlt]
    · rcases hat with a | a
      · rw [a] at e; exact hn e
      · rw [a] at e; injection e with e; simp at e; omega
  refine ⟨ho, fun x hx => ?_, fun i x hx => ?_, (h.b.alloc h.b.size o).trans hb⟩
  · rcases List.mem_append.1 hx with hx | hx
    · obtain ⟨a1, a2, a3⟩ := h.each x hx
      exact ⟨(key x a1 a3).1, a2, (key x a1 a3).2⟩
    · have hx' : x = m := by simpa using hx
      subst hx'
      exact ⟨(key x hbl hne).1, h301, (key x hbl hne).2⟩
  · by_cases hl : i < M.length
    · rw [List.getElem?_append_left hl] at hx
      exact h.at_ i x hx
    · rw [List.getElem?_append_right (by omega)] at hx
      have e : i - M.length = 0 := by
        by_cases e : i - M.length = 0
        · exact e
        · rw [List.getElem?_eq_none (by simp; omega)] at hx; cases hx
      rw [e] at hx
      cases hx
      have : i = M.length := by omega
      rw [this]
      exact ⟨k, hk, hm1, hm2⟩
theorem AlI.solos {w W : World} {K : List Kn} {v : Value} {M : List Ki} (h : AlI w W K v M) (hl : M.length = K.length) : Go.Proofs.Ytecmfdkhcffpmaa.solos (kiP M) (kiN M) M.length 5 = Go.Proofs.Ytecmfdkhcffpmaa.solos (kdP (K.map kp)) (lenP (K.map kp)) (K.map kp).length 5 := by
  rw [List.length_map, ← hl]
  refine solos_congrN _ _ _ _ _ _ (fun i hi => ?_) (fun k hk i hi p hp => ?_)
  · obtain ⟨k, e1, e2, e3⟩ := h.at_ i M[i] (List.getElem?_eq_getElem hi)
    rw [kiN_at (List.getElem?_eq_getElem hi), e2]
    unfold lenP
    rw [List.getElem?_map, e1]
    show _ = (k.s.data.toList.length + 1)
    rw [Wd.len_str]
  · obtain ⟨x, e1, e2, e3⟩ := h.at_ i M[i] (List.getElem?_eq_getElem hi)
    rw [kiP_at (List.getElem?_eq_getElem hi), e3]
    unfold kdP
    rw [List.getElem?_map, e1]
    rfl
/-- What reports are answered with. -/
def RPost (w : World) (r : Except (Int × Int) (List Wd.It)) (e : Ending) (w' : World) : Prop :=
  Below w.heap.size w w' ∧ (match r with
    | .ok its => ∃ ao cc, e = .returned (.tuple #[.slice ao (analyseS its).length cc, .int .i64 0]) ∧ w'.ownsRow w.heap.size 41 3 (.slice ao (analyseS its).length cc) (analyseS its).length ((analyseS its).flatMap rpV)
    | .error x => e = .returned (.tuple #[.slice none 0 0, .int .i64 x.1]))
end Go.Proofs.Ytecmfdkhcffpmaa
/- Contracts of the document's calls: Analyse, Edges. -/
namespace Go.Proofs.Ytecmfdkhcffpmaa
open Go.RowKit
set_option linter.unusedSimpArgs false
set_option linter.unusedVariables false
set_option maxHeartbeats 8000000
open Mc

/-- One list of reports is laid behind another, whatever it is. -/
theorem wpList_more {ops : Array Oper} {rest : List Oper} {o : Oper} {a : Act} {w : World} {Q : Exit → Act → World → Prop} (hgd : o.guard = none) (s x : Operand)
    (ho : o.op = .call { callee := .builtin .append, args := #[s, x], argTypes := #[35, 35] })
    (w0 : World) (v : Value) (X Y : List Rp) (hs : a.eval s = v) (b : Nat) (ao : Option Addr) (cc : Nat) (hx : a.eval x = .slice ao Y.length cc) (hX : RepI w0 w v X) (hY : w.ownsRow b 41 3 (.slice ao Y.length cc) Y.length (Y.flatMap rpV)) (hl : X.length + Y.length ≤ 100000)
    (h : ∀ ao' cc' w', RepI w0 w' (.slice ao' (X ++ Y).length cc') (X ++ Y) → (∀ j, j < w.heap.size → v.ownBlock ≠ some j → w'.heap[j]? = w.heap[j]?) → w.heap.size ≤ w'.heap.size → wpList Try.prog ops Q rest (a.put o.dst (.slice ao' (X ++ Y).length cc')) w') :
    wpList Try.prog ops Q (o :: rest) a w := by
  obtain ⟨i0, hj0, hz0, hz1, hz2⟩ := info_parts Try.infoRep
  rcases hY.2 with ⟨e1, e2⟩ | ⟨g, cap, cur, e1, hb, hg, h1, h2, h3, h4⟩
  · have hY0 : Y = [] := List.length_eq_zero_iff.1 e2
    subst hY0
    obtain ⟨ax, cx, rfl⟩ := own_v hX.own
    refine wpList_append_own_none hgd s x 35 ho w0.heap.size 41 i0 3 Try.underlying35 hj0 _ X.length (X.flatMap rpV) hs hX.own (by rw [hx]; exact e1) ?_
    have := h ax cx w (by simpa using hX) (fun _ _ _ => rfl) (Nat.le_refl _)
    simpa using this
  · have e1' : ao = some ⟨g, 0, none⟩ := by injection e1
    subst e1'
    refine wpList_append_own_at w hgd s x 35 ho w0.heap.size 41 i0 _ 3 24 Try.underlying35 hj0 hz0 hz1 hz2 rfl (by decide) v X.length (X.flatMap rpV) hs hX.own ⟨g, 0, none⟩ Y.length cc (Y.flatMap rpV) hx (by rw [flat_len rpV_len]) ?_ ?_ (by unfold maxLen; omega) (by omega) hX.b.size ?_
    · intro j u hj
      have hjl := (List.getElem?_eq_some_iff.1 hj).1
      rw [← h4, List.getElem?_take] at hj
      split at hj
      · rw [Array.getElem?_toList] at hj
        have := row_cell hg hj
        rw [Addr.add_mid]; simpa using this
      · cases hj
    · intro u hu
      obtain ⟨r, hr, hu⟩ := List.mem_flatMap.1 hu
      simp [rpV] at hu
      rcases hu with rfl | rfl | rfl <;> rfl
    · intro v' w' hown hgr hnil hat
      obtain ⟨ao', cc', rfl⟩ := own_v hown
      have e2 : X.length + Y.length = (X ++ Y).length := by simp
      have e3 : X.flatMap rpV ++ Y.flatMap rpV = (X ++ Y).flatMap rpV := by simp
      rw [e2, e3] at hown
      rw [e2]
      refine h ao' cc' w' ⟨hown, hX.b.grown hgr hX.b.size (fun q hq => (own_lt0 hX.own hq).1)⟩ (fun j hj hn => hgr.block j hj (fun e => hn e.symm)) hgr.size
theorem soloS_doc (its : List Wd.It) (hf : Fine its) : solos (fndP its) (lenD its) its.length 5 = soloS its := by
  unfold soloS
  refine solos_congrN _ _ _ _ _ _ (fun i hi => rfl) (fun k hk i hi p hp => ?_)
  exact (open Classical in bool_iff (fndTo_iff _ _ (hf.gb hi) (k + 1) p))
set_option maxRecDepth 100000 in
theorem danalyse_err (s : ByteArray) (w : World) (x : Int × Int) (hs : s.size ≤ maxLen) (hread : Wd.readP s.data.toList = .error x) :
    Calls Try.prog 22 #[.string s] w fun e w' => e = .returned (.tuple #[.slice none 0 0, .int .i64 x.1]) ∧ Below w.heap.size w w' := by
  have hx := Wd.readP_err hread
  have HX := known_any s w hs
  rw [hread] at HX
  have HXX := hide HX
  clear HX hread
  go_enter Try.func22, Try.ntmps22
  go_wp2_with (go_at_call 59; refine HXX.out.mono ?_; rintro e w1 ⟨hb1, rfl⟩; have HB1 := hide hb1; clear hb1)
  go_ret2
  exact ⟨rfl, HB1.out⟩
set_option maxRecDepth 100000 in
theorem danalyse_ok (s : ByteArray) (w : World) (its : List Wd.It) (hs : s.size ≤ maxLen) (hread : Wd.readP s.data.toList = .ok its) :
    Calls Try.prog 22 #[.string s] w fun e w' => ∃ ao cc, e = .returned (.tuple #[.slice ao (analyseS its).length cc, .int .i64 0]) ∧ RepI w w' (.slice ao (analyseS its).length cc) (analyseS its) := by
  have HF := hide (fine_of hread)
  have hl8 := HF.out.len
  have HX := known_any s w hs
  rw [hread] at HX
  have HXX := hide HX
  clear HX hread
  have HAE : Hid (soloS its ++ ringL (fwK (edgeS its) 6) 6 ++ raceS its = analyseS its) := hide rfl
  have HSD := hide (soloS_doc its HF.out)
  have h2 := ringL_len (fwK (edgeS its) 6) 6
  have h3 : (raceS its).length ≤ 4 := by rw [← raceL_doc its HF.out]; exact raceL_len _ 4
  have HSL : Hid (∀ n, n ≤ 5 → (solos (fndP its) (lenD its) its.length n).length ≤ 20000 ∧ (soloK (fndP its) (lenD its) (n + 1) its.length).length ≤ 3000) := hide (fun n hn => by
    have hle : ∀ i, i < its.length → lenD its i ≤ 301 := fun i hi => by have := HF.out.short i hi; unfold lenD; omega
    have a1 := solos_len (fndP its) (lenD its) its.length n hle
    have a2 := soloK_len (fndP its) (lenD its) (n + 1) its.length hle
    have a3 : n * (its.length * 301) ≤ 5 * (8 * 301) := Nat.mul_le_mul (by omega) (Nat.mul_le_mul_right _ hl8)
    have a4 : its.length * 301 ≤ 8 * 301 := Nat.mul_le_mul_right _ hl8
    omega)
  go_enter Try.func22, Try.ntmps22
  go_wp2_with (go_at_call 59; refine HXX.out.mono ?_; rintro e w1 ⟨hb1, ia, ic, da, dc, D, rfl, hdk⟩; have HB1 := hide hb1; have HDK := hide hdk; clear hb1 hdk)
  have HR0 := hide (RepI.nil w1)
  go_loopw [7, 8] (fun a d wr => ∃ (n : Nat) (X : List Rp), n ≤ 5 ∧ d = .int .i64 ((n : Int) + 1) ∧ X = solos (fndP its) (lenD its) its.length n ∧ RepI w1 wr a X) (fun _ d _ => 6 - (intOf d).toNat)
  case atStart => exact ⟨0, [], by omega, rfl, rfl, HR0.out⟩
  case round =>
    clear HR0
    obtain ⟨n, X, hn, rfl, hX, hr⟩ := hrel
    have HR := hide hr
    have HX := hide hX
    clear hr hX
    obtain ⟨ao, cc, hv⟩ := own_v HR.out.own
    subst hv
    have hnI : (n : Int) ≤ 5 := by omega
    have hln := HSL.out n hn
    have hXl : X.length ≤ 20000 := by rw [HX.out]; exact hln.1
    by_cases hnt : n < 5
    · have hn4 : (n : Int) + 1 ≤ 5 := by omega
      have ASo : Hid (Calls Try.prog 60 #[.slice ia its.length ic, .slice da its.length dc, .int .i64 ((n : Int) + 1)] wr fun e w' => ∃ ao cc, e = .returned (.slice ao (soloK (fndP its) (lenD its) (n + 1) its.length).length cc) ∧ RepI wr w' (.slice ao (soloK (fndP its) (lenD its) (n + 1) its.length).length cc) (soloK (fndP its) (lenD its) (n + 1) its.length)) := hide (solo_any wr its ia da ic dc D (n + 1) (by omega) (HDK.out.below HR.out.b))
      have HSS := hide (solos_succ (fndP its) (lenD its) its.length n)
      have hYl := hln.2
      clear hln
      generalize soloK (fndP its) (lenD its) (n + 1) its.length = Y at *
      go_wp2_with (first | (at_builtin; refine wpList_more rfl _ _ rfl w1 _ X Y rfl _ _ _ rfl (HR2.out) (HY2.out) ?_ ?_; (omega); intro ao' cc' w3 hrep' hsame' hsz'; obtain ⟨Zw3, hZ⟩ : ∃ Z, X ++ Y = Z := ⟨_, rfl⟩; rw [hZ] at hrep' ⊢; have HZw3 := hide hZ; have HRPw3 := hide hrep'; clear hrep' hsame' hsz' hZ) | (go_at_call 60; refine (ASo.out).mono ?_; rintro e w2 ⟨ao2, cc2, rfl, hr2⟩; have HR2 := hide (HR.out.below hr2.b); have HY2 := hide hr2.own; clear hr2))
      go_round
      case measure => simp [intOf]; omega
      case rel => exact ⟨n + 1, _, by omega, by go_num, by rw [HSS.out, ← HX.out, HZw3.out], HRPw3.out⟩
    · have e : n = 5 := by omega
      subst e
      rw [HSD.out] at HX
      have hX2 := HX.out
      subst hX2
      have AE := hide (dedges_any wr its ia da ic dc D (HDK.out.below HR.out.b))
      obtain ⟨T, hT⟩ : ∃ T, edgeS its = T := ⟨_, rfl⟩
      have HTE := hide hT
      rw [hT] at HAE h2
      clear hT
      have AR := hide (fun W => drings_any T W)
      have AC := hide (fun W hb => draces_any W its ia da ic dc D (HDK.out.below hb))
      generalize ringL (fwK T 6) 6 = S2 at *
      generalize raceS its = S3 at *
      generalize soloS its = S1 at *
      go_wp2_with (first | (at_builtin; refine wpList_more rfl _ _ rfl w1 _ Zw5 S3 rfl _ _ _ rfl (HR6.out) (HY6.out) ?_ ?_; (rw [← HZw5.out, List.length_append]; omega); intro ao' cc' w7 hrep' hsame' hsz'; obtain ⟨Zw7, hZ⟩ : ∃ Z, Zw5 ++ S3 = Z := ⟨_, rfl⟩; rw [hZ] at hrep' ⊢; have HZw7 := hide hZ; have HRPw7 := hide hrep'; clear hrep' hsame' hsz' hZ) | (go_at_call 63; refine (AC.out _ HRPw5.out.b).mono ?_; rintro e w6 ⟨ao6, cc6, rfl, hr6⟩; have HR6 := hide (HRPw5.out.below hr6.b); have HY6 := hide hr6.own; clear hr6) | (at_builtin; refine wpList_more rfl _ _ rfl w1 _ S1 S2 rfl _ _ _ rfl (HR4.out) (HY4.out) ?_ ?_; (omega); intro ao' cc' w5 hrep' hsame' hsz'; obtain ⟨Zw5, hZ⟩ : ∃ Z, S1 ++ S2 = Z := ⟨_, rfl⟩; rw [hZ] at hrep' ⊢; have HZw5 := hide hZ; have HRPw5 := hide hrep'; clear hrep' hsame' hsz' hZ) | (go_at_call 62; refine (AR.out _).mono ?_; rintro e w4 ⟨ao4, cc4, rfl, hr4⟩; have HR4 := hide (HR3.out.below hr4.b); have HY4 := hide hr4.own; clear hr4) | (refine wpList_load_row rfl 92 _ rfl _ rfl 92 (tbA T) (0, 0) _ ?_ Try.underlying92 rfl (Try.iTbD _) ?_; (exact HT3.out.raw)) | (refine wpList_store_row rfl 92 _ _ rfl w2.heap.size (tbA T) rfl rfl 92 (tbA (fun _ _ => false)) ?_ (Try.iTbD _) (by rw [tbA_size, tbA_size]) (tbA_one _) ?_; (exact (Row.new w2 (tbA (fun _ _ => false)) 92).raw); rw [World.setRow_alloc_new]; have HR3 := hide (HR2.out.below (below_one w2 (.cells (tbA T) 92))); have HT3 := hide (Row.new w2 (tbA T) 92); generalize w2.alloc (.cells (tbA T) 92) = w3 at *) | (refine wpList_allocD rfl rfl ?_) | (go_at_call 61; refine AE.out.mono ?_; rintro e w2 ⟨rfl, hb2⟩; rw [HTE.out]; have HR2 := hide (HR.out.below hb2); clear hb2))
      go_ret2
      have hfz : analyseS its = Zw7 := by rw [← HAE.out, HZw5.out, HZw7.out]
      exact ⟨ao', cc', by rw [hfz]; rfl, by rw [hfz]; exact ⟨own_mono HRPw7.out.own HB1.out.size, below_go HB1.out HRPw7.out.b⟩⟩
theorem danalyse_any (s : ByteArray) (w : World) (hs : s.size ≤ maxLen) : Calls Try.prog 22 #[.string s] w (RPost w (Wd.readP s.data.toList)) := by
  cases hr : Wd.readP s.data.toList with
  | ok its =>
    refine (danalyse_ok s w its hs hr).mono ?_
    rintro e w' ⟨ao, cc, rfl, h⟩
    exact ⟨h.b, ao, cc, rfl, h.own⟩
  | error x =>
    refine (danalyse_err s w x hs hr).mono ?_
    rintro e w' ⟨rfl, hb⟩
    exact ⟨hb, rfl⟩
end Go.Proofs.Ytecmfdkhcffpmaa
/- Contract of the document's 'Shown'. -/
namespace Go.Proofs.Ytecmfdkhcffpmaa
open Go.RowKit
set_option linter.unusedSimpArgs false
set_option linter.unusedVariables false
set_option maxHeartbeats 8000000
open Mc

/-- Whether a report is among these, one of an item by itself. -/
def inB (R : List Rp) (K I P : Int) : Bool := R.any (fun x => x.1 == K && (x.2.1 == I && x.2.2 == P)) && decide (K ≤ 5)
theorem inB_snoc (R : List Rp) (j : Nat) (h : j < R.length) (K I P : Int) : inB (R.take (j + 1)) K I P = (inB (R.take j) K I P || ((R[j].1 == K && (R[j].2.1 == I && R[j].2.2 == P)) && decide (K ≤ 5))) := by
  unfold inB
  rw [List.take_succ_eq_append_getElem h, List.any_append]
  simp only [List.any_cons, List.any_nil, Bool.or_false]
  cases (R.take j).any (fun x => x.1 == K && (x.2.1 == I && x.2.2 == P)) <;> cases (R[j].1 == K && (R[j].2.1 == I && R[j].2.2 == P)) <;> cases decide (K ≤ 5) <;> rfl
theorem inB_iff (R : List Rp) (K I P : Int) : inB R K I P = true ↔ (K, I, P) ∈ R ∧ K ≤ 5 := by
  unfold inB
  rw [Bool.and_eq_true, decide_eq_true_eq, List.any_eq_true]
  constructor
  · rintro ⟨⟨x, hx, h⟩, h5⟩
    simp at h
    obtain ⟨h1, h2, h3⟩ := h
    exact ⟨by rw [← h1, ← h2, ← h3]; exact hx, h5⟩
  · rintro ⟨h, h5⟩
    exact ⟨⟨_, h, by simp⟩, h5⟩
theorem rep_lenD (its : List Wd.It) (hf : Fine its) : (analyseS its).length ≤ 30000 := by
  have a1 : (soloS its).length ≤ 5 * (its.length * 301) := by
    unfold soloS
    exact solos_len _ _ its.length 5 (fun i hi => by have := hf.short i hi; omega)
  have a2 := ringL_len (fwK (edgeS its) 6) 6
  have a3 : (raceS its).length ≤ 4 := by unfold raceS; exact raceL_len _ 4
  have a4 : 5 * (its.length * 301) ≤ 5 * (8 * 301) := Nat.mul_le_mul (by omega) (Nat.mul_le_mul_right _ hf.len)
  unfold analyseS
  rw [List.length_append, List.length_append]
  omega
set_option maxRecDepth 100000 in
theorem dshown_err (s : ByteArray) (w : World) (x : Int × Int) (K I P : Int) (hs : s.size ≤ maxLen) (hread : Wd.readP s.data.toList = .error x) :
    Calls Try.prog 26 #[.string s, .agg #[.int .i64 K, .int .i64 I, .int .i64 P], .string (Wd.mkS []), .int .i64 x.1] w fun e w' => e = .returned (.bool true) ∧ Below w.heap.size w w' := by
  have hx := Wd.readP_err hread
  have HU := fun W => dUnfold_any s W hs
  have HA := fun W => danalyse_any s W hs
  rw [hread] at HU HA
  have HHU := hide HU
  have HHA := hide HA
  clear HU HA hread
  have hne : (x.1 != 0) = true := by simp [hx]
  have heq : (x.1 == x.1) = true := by simp
  have hem : (Wd.mkS []).toList.isEmpty = true := by unfold Wd.mkS; rw [ByteArray.toList_mk]; rfl
  have HB0 := hide (below_one w (.cells #[.int .i64 K, .int .i64 I, .int .i64 P] 41))
  go_enter Try.func26, Try.ntmps26
  go_wp2_with (first | (go_at_call 22; refine (HHA.out _).mono ?_; rintro e w2 ⟨hb2, rfl⟩; have HB2 := hide (below_go HB1.out hb2); clear hb2) | (go_at_call 16; refine (HHU.out _).mono ?_; rintro e w1 ⟨hb1, rfl⟩; have HB1 := hide (below_go HB0.out hb1); clear hb1))
  go_ret
  exact ⟨rfl, HB2.out⟩
/-- What Show may answer, by the document. -/
def GoodS (its : List Wd.It) (K I P : Int) (sc : List UInt8) (ee : Int) : Prop :=
  (inB (analyseS its) K I P = false ∧ sc = [] ∧ ee = 8) ∨ (inB (analyseS its) K I P = true ∧ ee = 0 ∧ sc.length ≤ 200000 ∧ scriptB (1 : Nat) sc = true ∧ endsB its K I P (begin_ its) sc = true)
set_option maxRecDepth 100000 in
theorem dshown_ok (s : ByteArray) (w : World) (its : List Wd.It) (K I P : Int) (sc : List UInt8) (ee : Int) (hs : s.size ≤ maxLen) (hread : Wd.readP s.data.toList = .ok its) (hg : GoodS its K I P sc ee) :
    Calls Try.prog 26 #[.string s, .agg #[.int .i64 K, .int .i64 I, .int .i64 P], .string (Wd.mkS sc), .int .i64 ee] w fun e w' => e = .returned (.bool true) ∧ Below w.heap.size w w' := by
  have HF := hide (fine_of hread)
  have HU := fun W => dUnfold_any s W hs
  have HA := fun W => danalyse_any s W hs
  rw [hread] at HU HA
  have HHU := hide HU
  have HHA := hide HA
  have hrl : (analyseS its).length ≤ 30000 := rep_lenD its HF.out
  clear HU HA hread
  have HG := hide hg
  clear hg
  obtain ⟨R, hR⟩ : ∃ R, analyseS its = R := ⟨_, rfl⟩
  have HR := hide hR
  rw [hR] at hrl
  clear hR
  have s3 := Wd.mkS_size sc
  have HW0 := hide (Row.new w #[.int .i64 K, .int .i64 I, .int .i64 P] 41)
  have HB0 := hide (below_one w (.cells #[.int .i64 K, .int .i64 I, .int .i64 P] 41))
  have hk5 : (decide (K ≤ 5) = decide (K ≤ 5)) := rfl
  clear hk5
  go_enter Try.func26, Try.ntmps26
  go_wp2_with (first | (go_at_call 22; refine (HHA.out _).mono ?_; rintro e w2 ⟨hb2, ao, cc, rfl, hown⟩; rw [HR.out] at hown ⊢; have HO2 := hide hown; have HIT2 := hide (own_below HIT1.out hb2); have HB2 := hide (below_go HB1.out hb2); have HW2 := hide (HW1.out.below hb2); clear hb2 hown) | (go_at_call 16; refine (HHU.out _).mono ?_; rintro e w1 ⟨hb1, aoi, cci, rfl, hitem⟩; have HIT1 := hide hitem; have HB1 := hide (below_go HB0.out hb1); have HW1 := hide (HW0.out.below hb1); clear hb1 hitem))
  go_loopw [13, 14] (fun c a wr => ∃ j : Nat, j ≤ R.length ∧ a = .int .i64 j ∧ c = .bool (inB (R.take j) K I P) ∧ Below w2.heap.size w2 wr) (fun _ a _ => R.length - (intOf a).toNat)
  case atStart => exact ⟨0, by omega, rfl, by simp [inB], Below.refl _ _⟩
  case round =>
    obtain ⟨j, hj, rfl, rfl, hb⟩ := hrel
    have HB := hide hb
    clear hb
    by_cases hlt : j < R.length
    · obtain ⟨g1, c1, hv1, _, hg1, _, _, hr1⟩ := own_el rpV_len HO2.out (List.getElem?_eq_getElem hlt)
      cases hv1
      have d0 : wr.cell? ⟨g1, j * 3, none⟩ = some (.int .i64 R[j].1) := (HB.out.cell (by exact hg1)).trans (hr1 0 _ rfl)
      have d1 : wr.cell? ⟨g1, j * 3 + 1, none⟩ = some (.int .i64 R[j].2.1) := (HB.out.cell (by exact hg1)).trans (hr1 1 _ rfl)
      have d2 : wr.cell? ⟨g1, j * 3 + 2, none⟩ = some (.int .i64 R[j].2.2) := (HB.out.cell (by exact hg1)).trans (hr1 2 _ rfl)
      have y0 : wr.cell? ⟨w.heap.size, 0, none⟩ = some (.int .i64 K) := (HW2.out.below HB.out).cell 0 rfl
      have y1 : wr.cell? ⟨w.heap.size, 1, none⟩ = some (.int .i64 I) := (HW2.out.below HB.out).cell 1 rfl
      have y2 : wr.cell? ⟨w.heap.size, 2, none⟩ = some (.int .i64 P) := (HW2.out.below HB.out).cell 2 rfl
      have HIN := hide (inB_snoc R j hlt K I P)
      clear hr1
      generalize R[j].1 = x at *
      generalize R[j].2.1 = y at *
      generalize R[j].2.2 = z at *
      generalize inB (R.take j) K I P = q at *
      have hki : (j : Int) < (R.length : Int) := by omega
      have hk0 : (0 : Int) ≤ (j : Int) := by omega
      cases b1 : (x == K)
      · rw [b1] at HIN
        cases q
        all_goals (
          go_wp2_with fail
          go_quiet (fail)
          go_wp2
          go_round
          case measure => simp [intOf]; omega
          case rel => exact ⟨j + 1, by omega, by go_num, by rw [HIN.out]; rfl, below_drewN HB.out _⟩)
      cases b2 : (y == I)
      · rw [b1, b2] at HIN
        cases q
        all_goals (
          go_wp2_with fail
          go_quiet (fail)
          go_wp2
          go_round
          case measure => simp [intOf]; omega
          case rel => exact ⟨j + 1, by omega, by go_num, by rw [HIN.out]; rfl, below_drewN HB.out _⟩)
      cases b3 : (z == P)
      · rw [b1, b2, b3] at HIN
        cases q
        all_goals (
          go_wp2_with fail
          go_quiet (fail)
          go_wp2
          go_round
          case measure => simp [intOf]; omega
          case rel => exact ⟨j + 1, by omega, by go_num, by rw [HIN.out]; rfl, below_drewN HB.out _⟩)
      · rw [b1, b2, b3] at HIN
        by_cases hK5 : K ≤ 5
        · have HD := hide (show decide (K ≤ 5) = true by simp [hK5])
          cases q
          all_goals (
            go_wp2_with fail
            go_quiet (fail)
            go_wp2
            go_round
            case measure => simp [intOf]; omega
            case rel => exact ⟨j + 1, by omega, by go_num, by rw [HIN.out, HD.out]; rfl, below_drewN HB.out _⟩)
        · have HD := hide (show decide (K ≤ 5) = false by simp; omega)
          cases q
          all_goals (
            go_wp2_with fail
            go_quiet (fail)
            go_wp2
            go_round
            case measure => simp [intOf]; omega
            case rel => exact ⟨j + 1, by omega, by go_num, by rw [HIN.out, HD.out]; rfl, below_drewN HB.out _⟩)
    · have e : R.take j = R := List.take_of_length_le (by omega)
      rw [e]
      clear e
      have hgg := HG.out
      unfold GoodS at hgg
      rw [HR.out] at hgg
      rcases hgg with ⟨h1, h2, h3⟩ | ⟨h1, h2, h3, h4, h5⟩
      · rw [h1]
        subst h2 h3
        have hem : (Wd.mkS []).toList.isEmpty = true := by unfold Wd.mkS; rw [ByteArray.toList_mk]; rfl
        clear h1
        go_wp2
        go_ret
        exact ⟨rfl, HB2.out.trans (HB.out.mono HB2.out.size)⟩
      · rw [h1]
        subst h2
        clear h1
        have ASc := hide (fun W => script_any (Wd.mkS sc) 1 W (by rw [s3]; omega) (by decide))
        rw [Wd.mkS_list, h4] at ASc
        obtain ⟨ai, ci, hvi, hci1, hci2, hit⟩ := own_items (own_below HIT2.out HB.out)
        have AE := hide (fun W hit => ends_yes W its ai ci (Wd.mkS sc) K I P HF.out (by rw [s3]; exact h3) ⟨hci1, hci2⟩ hit (by rw [Wd.mkS_list]; exact h4) (by rw [Wd.mkS_list]; exact h5))
        have y0 : wr.cell? ⟨w.heap.size, 0, none⟩ = some (.int .i64 K) := (HW2.out.below HB.out).cell 0 rfl
        have y1 : wr.cell? ⟨w.heap.size, 1, none⟩ = some (.int .i64 I) := (HW2.out.below HB.out).cell 1 rfl
        have y2 : wr.cell? ⟨w.heap.size, 2, none⟩ = some (.int .i64 P) := (HW2.out.below HB.out).cell 2 rfl
        have hscI : (sc.length : Int) ≤ 200000 := by omega
        have HHIT := hide hit
        clear h4 h5 hit
        cases hvi
        go_wp2_with (first | (go_at_call 66; refine (AE.out _ HHIT.out).mono ?_; rintro e w5 ⟨rfl, hb5⟩; have HB5 := hide (below_go (HB2.out.trans (HB.out.mono HB2.out.size)) hb5); clear hb5) | (go_at_call 65; refine (ASc.out _).mono ?_; rintro e w' ⟨rfl, hww⟩; obtain rfl := hww.symm; clear hww))
        go_ret
        exact ⟨rfl, HB5.out⟩
end Go.Proofs.Ytecmfdkhcffpmaa
