/- StL, StQ. -/
import Derived.Test.YtecmfdkhcffpmabB42
import Derived.Test.YtecmfdkhcffpmabB43
/- Contracts of the program's reports: Edges. -/
namespace Go.Proofs.Ytecmfdkhcffpmab
open Go.RowKit
set_option linter.unusedSimpArgs false
set_option linter.unusedVariables false
set_option maxHeartbeats 8000000
open Mc

theorem Try.infoEd : (Try.prog.info? 50).map (fun i => (i.zero, i.size, i.bytes)) = some (some (.agg #[.int .i64 0, .int .i64 0]), 2, 16) := by kernel_rfl
def edV (r : Int × Int) : List Value := [.int .i64 r.1, .int .i64 r.2]
theorem edV_len (r : Int × Int) : (edV r).length = 2 := rfl
/-- An own list of edges. -/
structure EdI (w W : World) (v : Value) (L : List (Int × Int)) : Prop where
  own : W.ownsRow w.heap.size 50 2 v L.length (L.flatMap edV)
  b : Below w.heap.size w W
theorem EdI.new (w : World) : EdI w (w.alloc (.cells #[] 50)) (.slice (some ⟨w.heap.size, 0, none⟩) 0 0) [] := ⟨own_nilA w _ _ _ (Nat.le_refl _), below_one _ _⟩
theorem EdI.below {w W W' : World} {v : Value} {L : List (Int × Int)} (h : EdI w W v L) (hb : Below W.heap.size W W') : EdI w W' v L := ⟨own_same h.own (fun j _ hl => hb.block j hl), below_go h.b hb⟩
theorem EdI.push {w W W' : World} {v v' : Value} {L : List (Int × Int)} {r : Int × Int} {o : Obj} (h : EdI w W v L) (ho : W'.ownsRow w.heap.size 50 2 v' (L ++ [r]).length ((L ++ [r]).flatMap edV)) (hb : Below w.heap.size (W.alloc o) W') : EdI w W' v' (L ++ [r]) := ⟨ho, (h.b.alloc h.b.size o).trans hb⟩
theorem lookThrough_err (s : ByteArray) (w : World) (x : Int × Int) (hs : s.size ≤ maxLen) (hread : Wd.readP s.data.toList = .error x) :
    Calls Try.prog 42 #[.string s] w fun e w' => e = .returned (.tuple #[.slice none 0 0, .int .i64 x.1]) ∧ Below w.heap.size w w' := by
  have hx := Wd.readP_err hread
  have HX := sourceUnfold_any s w hs
  rw [hread] at HX
  have HXX := hide HX
  clear HX hread
  go_enter Try.func42, Try.ntmps42
  go_wp2_with (go_at_call 39; refine HXX.out.mono ?_; rintro e w1 ⟨hb1, rfl⟩; have HB1 := hide hb1; clear hb1)
  go_ret2
  exact ⟨rfl, HB1.out⟩
theorem pEdges_err (s : ByteArray) (w : World) (x : Int × Int) (hs : s.size ≤ maxLen) (hread : Wd.readP s.data.toList = .error x) :
    Calls Try.prog 35 #[.string s] w fun e w' => e = .returned (.tuple #[.slice none 0 0, .int .i64 x.1]) ∧ Below w.heap.size w w' := by
  have hx := Wd.readP_err hread
  have HXX := hide (lookThrough_err s w x hs hread)
  clear hread
  go_enter Try.func35, Try.ntmps35
  go_wp2_with (go_at_call 42; refine HXX.out.mono ?_; rintro e w1 ⟨rfl, hb1⟩; have HB1 := hide hb1; clear hb1)
  go_ret2
  exact ⟨rfl, HB1.out⟩
set_option maxRecDepth 100000 in
theorem pEdges_ok (s : ByteArray) (w : World) (its : List Wd.It) (hs : s.size ≤ maxLen) (hread : Wd.readP s.data.toList = .ok its) :
    Calls Try.prog 35 #[.string s] w fun e w' => ∃ ao cc, e = .returned (.tuple #[.slice ao (edgeL (edgeS its) 6).length cc, .int .i64 0]) ∧ EdI w w' (.slice ao (edgeL (edgeS its) 6).length cc) (edgeL (edgeS its) 6) := by
  have HXX := hide (lookThrough_ok s w its hs hread)
  clear hread
  generalize hF : edgeS its = F
  have HF := hide hF
  clear hF
  obtain ⟨i0, hj0, hz0, hz1, hz2⟩ := info_parts Try.infoEd
  go_enter Try.func35, Try.ntmps35
  go_wp2_with (first | (go_at_call 46; refine ((edgesOf_any (w0.alloc (.cells #[] 50)) kao kc K (by rw [HOF.out.len]; exact HK.out.below (below_one _ _))).mono ?_); rintro e w1 ⟨rfl, hb1⟩; rw [edgesP_eq (HOF.out.kof HK.out).1, HF.out]; have HR1 := hide (HR0.out.below hb1); clear hb1) | (go_at_call 42; refine (HXX.out).mono ?_; rintro e w0 ⟨kao, kc, K, rfl, hK, hof, hb0⟩; have HK := hide hK; have HOF := hide hof; have HB0 := hide hb0; have HR0 := hide (EdI.new w0); rw [← hof.len]; clear hK hof hb0))
  clear HR0
  go_loopw [6, 22] (fun a c wr => ∃ l : Nat, l ≤ 6 ∧ c = .int .i64 l ∧ EdI w0 wr a (edgeL F l)) (fun _ c _ => 6 - (intOf c).toNat)
  case atStart => exact ⟨0, by omega, rfl, HR1.out⟩
  case round =>
    clear HR1
    obtain ⟨l, hl, rfl, hr⟩ := hrel
    have HR := hide hr
    clear hr
    obtain ⟨ao, cc, hv⟩ := own_v HR.out.own
    subst hv
    by_cases hlt : l < 6
    · have hix := hide (ixRow F l hlt)
      have hl0 : (0 : Int) ≤ (l : Int) := by omega
      have hlen0 := edgeL_len F l
      have HFf : Hid (∀ m, F l m = (fun m => F l m) m) := hide (fun m => rfl)
      generalize (fun m => F l m) = f at *
      go_wp2_with (first | (refine wpList_load_row rfl 87 _ rfl _ rfl 87 (bsA 6 f) (0, 0) _ ?_ Try.underlying87 rfl (Try.iSix _) ?_; (exact HT1.out.raw)) | (refine wpList_store_row rfl 87 _ _ rfl wr.heap.size (bsA 6 f) rfl rfl 87 #[.bool false, .bool false, .bool false, .bool false, .bool false, .bool false] ?_ (Try.iSix _) rfl (bsA_one _ _) ?_; (exact (Row.new wr #[.bool false, .bool false, .bool false, .bool false, .bool false, .bool false] 87).raw); rw [World.setRow_alloc_new]; have HR1 := hide (HR.out.below (below_one wr (.cells (bsA 6 f) 87))); have HT1 := hide (Row.new wr (bsA 6 f) 87); generalize wr.alloc (.cells (bsA 6 f) 87) = w1 at *) | (refine wpList_ixTo rfl _ _ _ rfl _ (hix.out _) ?_))
      go_loopw [6, 27] (fun a c wr => ∃ (m : Nat) (X : List (Int × Int)), m ≤ 6 ∧ c = .int .i64 m ∧ X = edgeL F l ++ edgeRow F l m ∧ EdI w0 wr a X) (fun _ c _ => 6 - (intOf c).toNat)
      case atStart => exact ⟨0, _, by omega, rfl, rfl, by rw [edgeRow_zero, List.append_nil]; exact HR1.out⟩
      case round =>
        clear HR1 HT1 HR hix
        obtain ⟨m, X, hm, rfl, hX, hr⟩ := hrel
        have HR := hide hr
        have HX := hide hX
        clear hr hX
        obtain ⟨ao, cc, hv⟩ := own_v HR.out.own
        subst hv
        have hsz := HR.out.b.size
        by_cases hmt : m < 6
        · have hix := hide (ixSb f m hmt)
          have hm0 : (0 : Int) ≤ (m : Int) := by omega
          have hlen := edgeRow_len F l m
          have hlen1 : X.length ≤ 50 := by rw [HX.out, List.length_append]; omega
          have hyes := hide (edgeRow_yes F l m)
          have hno := hide (edgeRow_no F l m)
          rw [HFf.out m] at hyes hno
          generalize f m = o at *
          cases o
          · go_wp2_with (refine wpList_ixTo rfl _ _ _ rfl _ (hix.out _) ?_)
            go_round
            case measure => simp [intOf]; omega
            case rel => exact ⟨m + 1, X, by omega, by go_num, by rw [hno.out rfl]; exact HX.out, HR.out⟩
          · go_wp2_with (first | (at_builtin; refine wpList_push (f := edV) edV_len rfl _ _ 46 rfl (w0.heap.size) 50 i0 _ 16 Try.underlying46 hj0 hz0 hz1 hz2 rfl (by decide) _ X (((l : Nat) : Int), ((m : Nat) : Int)) rfl ⟨_, 0, none⟩ rfl ?_ ?_ ?_ ?_ ?_ ?_ ?_; (exact HR.out.own.alloc _); (exact newsL _ _ _); (intro x hx; simp [edV] at hx; rcases hx with rfl | rfl <;> rfl); (unfold maxLen; omega); (omega); (exact (by simp; omega)); intro ao' cc' w2 hown' hbel' hsame' hat'; have HOw2 := hide hown'; have HBLw2 := hide hbel'; clear hown' hbel' hsame' hat') | (refine wpList_ixTo rfl _ _ _ rfl _ (hix.out _) ?_))
            go_round
            case measure => simp [intOf]; omega
            case rel => exact ⟨m + 1, _, by omega, by go_num, by rw [hyes.out rfl, ← List.append_assoc, ← HX.out], HR.out.push HOw2.out HBLw2.out⟩
        · have e : m = 6 := by omega
          subst e
          go_wp2
          go_round
          case measure => simp [intOf]; omega
          case rel => exact ⟨l + 1, by omega, by go_num, by rw [edgeL_succ, ← HX.out]; exact HR.out⟩
    · have e : l = 6 := by omega
      subst e
      go_wp2
      go_ret2
      exact ⟨ao, cc, rfl, own_mono HR.out.own HB0.out.size, below_go HB0.out HR.out.b⟩
/-- What a list of edges is answered with. -/
def EPost (w : World) (r : Except (Int × Int) (List Wd.It)) (e : Ending) (w' : World) : Prop :=
  Below w.heap.size w w' ∧ (match r with
    | .ok its => ∃ ao cc, e = .returned (.tuple #[.slice ao (edgeL (edgeS its) 6).length cc, .int .i64 0]) ∧ w'.ownsRow w.heap.size 50 2 (.slice ao (edgeL (edgeS its) 6).length cc) (edgeL (edgeS its) 6).length ((edgeL (edgeS its) 6).flatMap edV)
    | .error x => e = .returned (.tuple #[.slice none 0 0, .int .i64 x.1]))
theorem pEdges_any (s : ByteArray) (w : World) (hs : s.size ≤ maxLen) : Calls Try.prog 35 #[.string s] w (EPost w (Wd.readP s.data.toList)) := by
  cases hr : Wd.readP s.data.toList with
  | ok its =>
    refine (pEdges_ok s w its hs hr).mono ?_
    rintro e w' ⟨ao, cc, rfl, h⟩
    exact ⟨h.b, ao, cc, rfl, h.own⟩
  | error x =>
    refine (pEdges_err s w x hs hr).mono ?_
    rintro e w' ⟨rfl, hb⟩
    exact ⟨hb, rfl⟩
end Go.Proofs.Ytecmfdkhcffpmab
/- Contracts of the program's reports: of items alone; all reports. -/
namespace Go.Proofs.Ytecmfdkhcffpmab
open Go.RowKit
set_option linter.unusedSimpArgs false
set_option linter.unusedVariables false
set_option maxHeartbeats 8000000
open Mc

theorem Try.infoSl : (Try.prog.info? 32).map (fun i => (i.zero, i.size, i.bytes)) = some (some (.slice none 0 0), 1, 24) := by kernel_rfl
structure AlI (w W : World) (K : List Kn) (v : Value) (M : List Ki) : Prop where
  own : W.ownsRow w.heap.size 32 1 v M.length (M.flatMap kiV)
  each : ∀ m ∈ M, Blk W m.g m.n (fun p => .int .i64 (m.f p)) ∧ m.n ≤ 301 ∧ v.ownBlock ≠ some m.g
  at_ : ∀ (i : Nat) (m : Ki), M[i]? = some m → ∃ k, K[i]? = some k ∧ m.n = k.s.size + 1 ∧ m.f = kAt k.hd k.s.data.toList k.L
  b : Below w.heap.size w W
theorem AlI.below {w W W' : World} {K : List Kn} {v : Value} {M : List Ki} (h : AlI w W K v M) (hb : Below W.heap.size W W') : AlI w W' K v M := ⟨own_same h.own (fun j _ hl => hb.block j hl), fun m hm => ⟨(h.each m hm).1.below hb, (h.each m hm).2⟩, h.at_, below_go h.b hb⟩
theorem AlI.new (w : World) (K : List Kn) : AlI w (w.alloc (.cells #[] 32)) K (.slice (some ⟨w.heap.size, 0, none⟩) 0 0) [] := ⟨own_nilA w _ _ _ (Nat.le_refl _), fun m hm => (by cases hm), fun i m hm => (by cases hm), below_one _ _⟩
theorem AlI.push {w W W' : World} {K : List Kn} {v v' : Value} {M : List Ki} {m : Ki} {k : Kn} {o : Obj} (h : AlI w W K v M) (hk : K[M.length]? = some k) (hm1 : m.n = k.s.size + 1) (hm2 : m.f = kAt k.hd k.s.data.toList k.L) (h301 : m.n ≤ 301) (hbl : Blk W m.g m.n (fun p => .int .i64 (m.f p))) (hne : v.ownBlock ≠ some m.g) (ho : W'.ownsRow w.heap.size 32 1 v' (M ++ [m]).length ((M ++ [m]).flatMap kiV)) (hb : Below w.heap.size (W.alloc o) W') (hs : ∀ j, j < (W.alloc o).heap.size → v.ownBlock ≠ some j → W'.heap[j]? = (W.alloc o).heap[j]?) (hat : v'.ownBlock = v.ownBlock ∨ v'.ownBlock = some (W.alloc o).heap.size) : AlI w W' K v' (M ++ [m]) := by
  have key : ∀ x : Ki, Blk W x.g x.n (fun p => .int .i64 (x.f p)) → v.ownBlock ≠ some x.g → Blk W' x.g x.n (fun p => .int .i64 (x.f p)) ∧ v'.ownBlock ≠ some x.g := by
    intro x hx hn
    have hlt := hx.lt
    refine ⟨hx.same ?_, fun e => ?_⟩
    · rw [hs x.g (by simp; omega) hn, heap_alloc_old _ _ hlt]
    · rcases hat with a | a
      · rw [a] at e; exact hn e
      · rw [a] at e; injection e with e; simp at e; omega
  refine ⟨ho, fun x hx => ?_, fun i x hx => ?_, (h.b.alloc h.b.size o).trans hb⟩
  · rcases List.mem_append.1 hx with hx | hx
    · obtain ⟨a1, a2, a3⟩ := h.each x hx
      exact ⟨(key x a1 a3).1, a2, (key x a1 a3).2⟩
    · have hx' : x = m := by simpa using hx
      subst hx'
      exact ⟨(key x hbl hne).1, h301, (key x hbl hne).2⟩
  · by_cases hl : i < M.length
    · rw [List.getElem?_append_left hl] at hx
      exact h.at_ i x hx
    · rw [List.getElem?_append_right (by omega)] at hx
      have e : i - M.length = 0 := by
        by_cases e : i - M.length = 0
        · exact e
        · rw [List.getElem?_eq_none (by simp; omega)] at hx; cases hx
      rw [e] at hx
      cases hx
      have : i = M.length := by omega
      rw [this]
      exact ⟨k, hk, hm1, hm2⟩
theorem AlI.solos {w W : World} {K : List Kn} {v : Value} {M : List Ki} (h : AlI w W K v M) (hl : M.length = K.length) : Go.Proofs.Ytecmfdkhcffpmab.solos (kiP M) (kiN M) M.length 5 = Go.Proofs.Ytecmfdkhcffpmab.solos (kdP (K.map kp)) (lenP (K.map kp)) (K.map kp).length 5 := by
  rw [List.length_map, ← hl]
  refine solos_congrN _ _ _ _ _ _ (fun i hi => ?_) (fun k hk i hi p hp => ?_)
  · obtain ⟨k, e1, e2, e3⟩ := h.at_ i M[i] (List.getElem?_eq_getElem hi)
    rw [kiN_at (List.getElem?_eq_getElem hi), e2]
    unfold lenP
    rw [List.getElem?_map, e1]
    show _ = (k.s.data.toList.length + 1)
    rw [Wd.len_str]
  · obtain ⟨x, e1, e2, e3⟩ := h.at_ i M[i] (List.getElem?_eq_getElem hi)
    rw [kiP_at (List.getElem?_eq_getElem hi), e3]
    unfold kdP
    rw [List.getElem?_map, e1]
    rfl
set_option maxRecDepth 100000 in
theorem palone_any (w : World) (aao : Option Addr) (ac : Nat) (K : List Kn) (hK : KnAll w (.slice aao K.length ac) K) :
    Calls Try.prog 43 #[.slice aao K.length ac] w fun e w' => ∃ ao cc, e = .returned (.slice ao (solos (kdP (K.map kp)) (lenP (K.map kp)) (K.map kp).length 5).length cc) ∧ RepI w w' (.slice ao (solos (kdP (K.map kp)) (lenP (K.map kp)) (K.map kp).length 5).length cc) (solos (kdP (K.map kp)) (lenP (K.map kp)) (K.map kp).length 5) := by
  have HK := hide hK
  have hl8 := hK.len
  clear hK
  have HA0 := hide (AlI.new w K)
  have HSO : Hid (∀ (W : World) (v : Value) (M : List Ki), AlI w W K v M → M.length = K.length → solos (kiP M) (kiN M) M.length 5 = solos (kdP (K.map kp)) (lenP (K.map kp)) (K.map kp).length 5) := hide (fun W v M h hl => h.solos hl)
  generalize solos (kdP (K.map kp)) (lenP (K.map kp)) (K.map kp).length 5 = RS at *
  obtain ⟨i0, hj0, hz0, hz1, hz2⟩ := info_parts Try.infoSl
  go_enter Try.func43, Try.ntmps43
  go_wp2
  go_loopw [3, 10] (fun a d wr => ∃ (i : Nat) (M : List Ki), i ≤ K.length ∧ M.length = i ∧ d = .int .i64 i ∧ AlI w wr K a M) (fun _ d _ => K.length - (intOf d).toNat)
  case atStart => exact ⟨0, [], by omega, rfl, rfl, HA0.out⟩
  case round =>
    clear HA0
    obtain ⟨i, M, hi, hMl, rfl, ha⟩ := hrel
    subst hMl
    have HA := hide ha
    clear ha
    obtain ⟨ao, cc, hv⟩ := own_v HA.out.own
    subst hv
    by_cases hlt : M.length < K.length
    · obtain ⟨k, hki⟩ : ∃ k, K[M.length]? = some k := ⟨K[M.length], List.getElem?_eq_getElem hlt⟩
      have HKn := hide (HK.out.each k (List.mem_of_getElem? hki))
      obtain ⟨g0, cap0, hv0, _, hg0, _, _, hr0⟩ := own_el knV_len (own_belowZ HK.out.own HA.out.b) hki
      cases hv0
      obtain ⟨kao, kc, hkv⟩ := own_v HKn.out.own
      have HR0 : Hid (wr.rangeAt g0 (M.length * 5) #[.bool k.hd, .bool k.hd, .string k.s, .slice (some ⟨k.lg, 0, none⟩) k.s.size k.s.size, .slice kao k.L.length kc].toList) := hide (by unfold knV at hr0; rw [hkv] at hr0; exact hr0)
      have hks := HKn.out.short
      have AK := hide (fun W hin => kinds_any W k kao kc (k.s.size + 1) rfl hkv hin)
      have hi0 : (0 : Int) ≤ (M.length : Int) := by omega
      have HKI := hide hki
      have hsz := HA.out.b.size
      obtain ⟨N, hN⟩ : ∃ N, k.s.size + 1 = N := ⟨_, rfl⟩
      rw [hN] at AK
      have HN := hide hN
      have hN3 : N ≤ 301 := by omega
      clear hki hr0 hkv hN
      go_wp2_with (first | (at_builtin; refine wpList_push (f := kiV) kiV_len rfl _ _ 53 rfl w.heap.size 32 i0 _ 24 Try.underlying53 hj0 hz0 hz1 hz2 rfl (by decide) _ M ⟨gk, N, kAt k.hd k.s.data.toList k.L⟩ rfl ⟨_, 0, none⟩ rfl ?_ ?_ ?_ ?_ ?_ ?_ ?_; (exact HA2.out.own.alloc _); (exact newsL _ _ _); (intro x hx; simp [kiV] at hx; subst hx; rfl); (unfold maxLen; omega); (omega); (simp; omega); intro ao' cc' w5 hown' hbel' hsame' hat'; have HO5 := hide hown'; have HBL5 := hide hbel'; have HS5 := hide hsame'; have HAT5 := hide hat'; clear hown' hbel' hsame' hat') | (go_at_call 53; refine (AK.out _ (HKn.out.below HA1.out.b)).mono ?_; rintro e w2 ⟨gk, rfl, hgk, hbk, hb2⟩; have HA2 := hide (HA1.out.below hb2); have HBK := hide hbk; have hz2' := hb2.size; clear hb2 hbk) | (refine wpList_load_row rfl 111 _ rfl _ rfl 111 #[.bool k.hd, .bool k.hd, .string k.s, .slice (some ⟨k.lg, 0, none⟩) k.s.size k.s.size, .slice kao k.L.length kc] (0, 0) _ ?_ Try.underlying111 rfl Try.iKnown ?_; (exact HKR1.out.raw)) | (refine wpList_store_row rfl 111 _ _ rfl wr.heap.size #[.bool k.hd, .bool k.hd, .string k.s, .slice (some ⟨k.lg, 0, none⟩) k.s.size k.s.size, .slice kao k.L.length kc] rfl rfl 111 #[.bool false, .bool false, .string ⟨#[]⟩, .slice none 0 0, .slice none 0 0] ?_ Try.iKnown rfl (by simp [Value.oneCell']) ?_; (exact (Row.new wr #[.bool false, .bool false, .string ⟨#[]⟩, .slice none 0 0, .slice none 0 0] 111).raw); rw [World.setRow_alloc_new]; have HA1 := hide (HA.out.below (below_one wr (.cells #[.bool k.hd, .bool k.hd, .string k.s, .slice (some ⟨k.lg, 0, none⟩) k.s.size k.s.size, .slice kao k.L.length kc] 111))); have HKR1 := hide (Row.new wr #[.bool k.hd, .bool k.hd, .string k.s, .slice (some ⟨k.lg, 0, none⟩) k.s.size k.s.size, .slice kao k.L.length kc] 111); have hz1' : wr.heap.size < (wr.alloc (.cells #[.bool k.hd, .bool k.hd, .string k.s, .slice (some ⟨k.lg, 0, none⟩) k.s.size k.s.size, .slice kao k.L.length kc] 111)).heap.size := (Row.new wr #[.bool k.hd, .bool k.hd, .string k.s, .slice (some ⟨k.lg, 0, none⟩) k.s.size k.s.size, .slice kao k.L.length kc] 111).lt; generalize wr.alloc (.cells #[.bool k.hd, .bool k.hd, .string k.s, .slice (some ⟨k.lg, 0, none⟩) k.s.size k.s.size, .slice kao k.L.length kc] 111) = w1 at *; skip) | (refine wpList_load_mid rfl 111 _ rfl _ _ rfl #[.bool k.hd, .bool k.hd, .string k.s, .slice (some ⟨k.lg, 0, none⟩) k.s.size k.s.size, .slice kao k.L.length kc].toList _ ?_ Try.underlying111 rfl Try.iKnown ?_; (exact HR0.out)))
      go_round
      case measure => simp [intOf]; omega
      case rel =>
        exact ⟨M.length + 1, M ++ [⟨gk, N, kAt k.hd k.s.data.toList k.L⟩], by omega, by simp, by go_num, HA2.out.push HKI.out HN.out.symm rfl hN3 HBK.out (fun e => by have h1 := (own_lt0 HA1.out.own e).2; have h2 : w1.heap.size ≤ gk := hgk; exact absurd h1 (by show ¬ gk < _; omega)) HO5.out HBL5.out HS5.out HAT5.out⟩
    · have e : M.length = K.length := by omega
      have HS := hide (HSO.out _ _ _ HA.out e)
      have HMA : Hid (KiAll wr (.slice ao M.length cc) M) := hide ⟨own_mono HA.out.own (Nat.zero_le _), fun m hm => ⟨(HA.out.each m hm).1, (HA.out.each m hm).2.1⟩, by omega⟩
      have AI := hide (inOrder_any wr ao cc M HMA.out)
      rw [HS.out] at AI
      clear e
      go_wp2_with (first | (go_at_call 54; refine (AI.out).mono ?_; rintro e w9 ⟨rao, rcc, rfl, hri⟩; have HRI := hide hri; clear hri))
      go_ret
      exact ⟨rao, rcc, rfl, own_mono HRI.out.own HA.out.b.size, below_go HA.out.b HRI.out.b⟩
theorem two_step {w0 W W' : World} {v v' s : Value} {X S : List Rp} {r : Rp} {b : Nat} {o o' : Obj} (hx : RepI w0 W v X) (hs : W.ownsRow b 75 3 s S.length (S.flatMap rpV)) (hne : ∀ q, s.ownBlock = some q → v.ownBlock ≠ some q) (ho : W'.ownsRow w0.heap.size 75 3 v' (X ++ [r]).length ((X ++ [r]).flatMap rpV)) (hb : Below w0.heap.size ((W.alloc o).alloc o') W') (hsame : ∀ j, j < ((W.alloc o).alloc o').heap.size → v.ownBlock ≠ some j → W'.heap[j]? = ((W.alloc o).alloc o').heap[j]?) (hat : v'.ownBlock = v.ownBlock ∨ v'.ownBlock = some ((W.alloc o).alloc o').heap.size) :
    RepI w0 W' v' (X ++ [r]) ∧ W'.ownsRow b 75 3 s S.length (S.flatMap rpV) ∧ (∀ q, s.ownBlock = some q → v'.ownBlock ≠ some q) := by
  refine ⟨⟨ho, ((hx.b.alloc hx.b.size o).alloc (by have := hx.b.size; simp; omega) o').trans hb⟩, own_keep hs (fun q hq => ?_), fun q hq e => ?_⟩
  · have hlt := (own_lt0 hs hq).2
    rw [hsame q (by simp; omega) (hne q hq), heap_alloc_old _ _ (by simp; omega), heap_alloc_old _ _ hlt]
  · have hlt := (own_lt0 hs hq).2
    rcases hat with a | a
    · rw [a] at e; exact hne q hq e
    · rw [a] at e; injection e with e; simp at e; omega
theorem news2 (w : World) (o : Obj) (vs : List Value) (t : TypeId) : ∀ j u, vs[j]? = some u → ((w.alloc o).alloc (.cells vs.toArray t)).cell? ((⟨w.heap.size + 1, 0, none⟩ : Addr).add j) = some u := by
  intro j u hu
  have h := newsL (w.alloc o) vs t j u hu
  have e : (w.alloc o).heap.size = w.heap.size + 1 := by simp
  rw [e] at h
  exact h
theorem take_next {S : List Rp} {j : Nat} {r : Rp} (h : S[j]? = some r) (Y : List Rp) : Y ++ S.take (j + 1) = Y ++ S.take j ++ [r] := by
  rw [List.take_add_one, h]; simp
/-- What reports are answered with. -/
def RPost (w : World) (r : Except (Int × Int) (List Wd.It)) (e : Ending) (w' : World) : Prop :=
  Below w.heap.size w w' ∧ (match r with
    | .ok its => ∃ ao cc, e = .returned (.tuple #[.slice ao (analyseS its).length cc, .int .i64 0]) ∧ w'.ownsRow w.heap.size 75 3 (.slice ao (analyseS its).length cc) (analyseS its).length ((analyseS its).flatMap rpV)
    | .error x => e = .returned (.tuple #[.slice none 0 0, .int .i64 x.1]))
theorem panalyse_err (s : ByteArray) (w : World) (x : Int × Int) (hs : s.size ≤ maxLen) (hread : Wd.readP s.data.toList = .error x) :
    Calls Try.prog 32 #[.string s] w fun e w' => e = .returned (.tuple #[.slice none 0 0, .int .i64 x.1]) ∧ Below w.heap.size w w' := by
  have hx := Wd.readP_err hread
  have HXX := hide (lookThrough_err s w x hs hread)
  clear hread
  go_enter Try.func32, Try.ntmps32
  go_wp2_with (go_at_call 42; refine HXX.out.mono ?_; rintro e w1 ⟨rfl, hb1⟩; have HB1 := hide hb1; clear hb1)
  go_ret2
  exact ⟨rfl, HB1.out⟩
theorem analyseP_len (K : List Kp3) (h : ∀ i, i < K.length → lenP K i ≤ 301) (h8 : K.length ≤ 8) : (solos (kdP K) (lenP K) K.length 5).length ≤ 20000 ∧ (ringL (fwK (edgesP K) 6) 6).length ≤ 6 ∧ (raceL (fun c => raceP c K) 4).length ≤ 4 := by
  have h1 := solos_len (kdP K) (lenP K) K.length 5 h
  have h2 := ringL_len (fwK (edgesP K) 6) 6
  have h3 := raceL_len (fun c => raceP c K) 4
  have h4 : 5 * (K.length * 301) ≤ 5 * (8 * 301) := Nat.mul_le_mul (by omega) (Nat.mul_le_mul_right _ h8)
  omega
set_option maxRecDepth 100000 in
theorem panalyse_ok (s : ByteArray) (w : World) (its : List Wd.It) (hs : s.size ≤ maxLen) (hread : Wd.readP s.data.toList = .ok its) :
    Calls Try.prog 32 #[.string s] w fun e w' => ∃ ao cc, e = .returned (.tuple #[.slice ao (analyseS its).length cc, .int .i64 0]) ∧ RepI w w' (.slice ao (analyseS its).length cc) (analyseS its) := by
  have HXX := hide (lookThrough_ok s w its hs hread)
  have HF := hide (fine_of hread)
  clear hread
  generalize hF : analyseS its = F
  have HFE := hide hF
  clear hF
  obtain ⟨i0, hj0, hz0, hz1, hz2⟩ := info_parts Try.infoRep
  go_enter Try.func32, Try.ntmps32
  go_wp2_with (first | (go_at_call 44; refine (A2.out _ HR1.out.b).mono ?_; rintro e w2 ⟨a2, c2, rfl, hr2⟩; have HR2 := hide (HR1.out.below hr2.b); have HS2 := hide hr2.own; clear hr2) | (go_at_call 43; refine (A1.out _ (Below.refl _ _)).mono ?_; rintro e w1 ⟨a1, c1, rfl, hr1⟩; have HR1 := hide hr1; clear hr1) | (go_at_call 42; refine (HXX.out).mono ?_; rintro e w0 ⟨kao, kc, K, rfl, hK, hof, hb0⟩; have HB0 := hide hb0; have HAE := hide (analyseP_eq (hof.kof hK).1 (hof.kof hK).2); have hkl := hof.len; rw [← hof.len]; rw [← hof.len] at hK; have HK := hide hK; have HLN := hide (analyseP_len (K.map kp) (fun i hi => by rw [lenP_eq (hof.kof hK).1 i (by rw [← hof.len]; simpa using hi)]; have := HF.out.short i (by rw [← hof.len]; simpa using hi); omega) (by rw [List.length_map]; exact hK.len)); unfold analyseP at HAE; rw [HFE.out] at HAE; have A1 := hide (fun W hb => palone_any W kao kc K (hK.below hb)); have A2 := hide (fun W hb => rings_any W kao kc K (hK.below hb)); have A3 := hide (fun W hb => races_any W kao kc K (hK.below hb)); clear hK hof hb0 hkl; generalize solos (kdP (K.map kp)) (lenP (K.map kp)) (K.map kp).length 5 = S1 at *; generalize ringL (fwK (edgesP (K.map kp)) 6) 6 = S2 at *; generalize raceL (fun c => raceP c (K.map kp)) 4 = S3 at *))
  clear A1
  have hS2l : S2.length ≤ 6 := HLN.out.2.1
  have hS3l : S3.length ≤ 4 := HLN.out.2.2
  go_loopw [6, 24] (fun a d wr => ∃ (j : Nat) (X : List Rp), j ≤ S2.length ∧ d = .int .i64 j ∧ X = S1 ++ S2.take j ∧ RepI w0 wr a X ∧ wr.ownsRow w1.heap.size 75 3 (.slice a2 S2.length c2) S2.length (S2.flatMap rpV) ∧ (∀ q, (Value.slice a2 S2.length c2).ownBlock = some q → a.ownBlock ≠ some q)) (fun _ d _ => S2.length - (intOf d).toNat)
  case atStart => exact ⟨0, S1, by omega, rfl, by simp, HR2.out, HS2.out, fun q hq e => by have h1 := (own_lt0 HS2.out hq).1; have h2 := (own_lt0 HR1.out.own e).2; omega⟩
  case round =>
    clear HR1 HR2 HS2
    obtain ⟨j, X, hj, rfl, hX, hrx, hso, hne⟩ := hrel
    have HRX := hide hrx
    have HSO := hide hso
    have HNE := hide hne
    have HX := hide hX
    clear hrx hso hne hX
    obtain ⟨ao, cc, hv⟩ := own_v HRX.out.own
    subst hv
    have hXl : X.length ≤ 30000 := by have h := HLN.out; have h2 := HX.out; have h3 : (S2.take j).length ≤ S2.length := by simp; omega
                                      skip
                                      rw [h2, List.length_append]; omega
    by_cases hjt : j < S2.length
    · obtain ⟨r, hr⟩ : ∃ r, S2[j]? = some r := ⟨S2[j], List.getElem?_eq_getElem hjt⟩
      obtain ⟨g2, cap2, hv2, _, hg2, _, _, hr2⟩ := own_el rpV_len HSO.out hr
      cases hv2
      have d0 : wr.cell? ⟨g2, j * 3, none⟩ = some (.int .i64 r.1) := hr2 0 _ rfl
      have d1 : wr.cell? ⟨g2, j * 3 + 1, none⟩ = some (.int .i64 r.2.1) := hr2 1 _ rfl
      have d2 : wr.cell? ⟨g2, j * 3 + 2, none⟩ = some (.int .i64 r.2.2) := hr2 2 _ rfl
      have HTN := hide (take_next hr S1)
      have hjI : (0 : Int) ≤ (j : Int) := by omega
      have hsz := HRX.out.b.size
      clear hr2 hr
      go_wp2_with (first | (at_builtin; refine wpList_push (f := rpV) rpV_len rfl _ _ 35 rfl w0.heap.size 75 i0 _ 24 Try.underlying35 hj0 hz0 hz1 hz2 rfl (by decide) _ X r rfl ⟨_, 0, none⟩ rfl ?_ ?_ ?_ ?_ ?_ ?_ ?_; (exact (HRX.out.own.alloc _).alloc _); (first | exact newsL _ _ _ | exact news2 wr _ (rpV r) 75); (intro x hx; simp [rpV] at hx; rcases hx with rfl | rfl | rfl <;> rfl); (unfold maxLen; omega); (omega); (simp; omega); intro ao' cc' w5 hown' hbel' hsame' hat'; have HO5 := hide hown'; have HBL5 := hide hbel'; have HS5 := hide hsame'; have HAT5 := hide hat'; clear hown' hbel' hsame' hat'))
      go_round
      case measure => simp [intOf]; omega
      case rel =>
        obtain ⟨t1, t2, t3⟩ := two_step HRX.out HSO.out HNE.out HO5.out HBL5.out HS5.out HAT5.out
        exact ⟨j + 1, _, by omega, by go_num, by rw [HTN.out, ← HX.out], t1, t2, t3⟩
    · have e : j = S2.length := by omega
      subst e
      rw [List.take_length] at HX
      obtain ⟨Y, hY⟩ : ∃ Y, S1 ++ S2 = Y := ⟨_, rfl⟩
      rw [hY] at HX
      have hXY := HX.out.symm
      subst hXY
      have HY := hide hY
      clear hY HX
      go_wp2_with (first | (go_at_call 45; refine (A3.out _ HRX.out.b).mono ?_; rintro e w3 ⟨a3, c3, rfl, hr3⟩; have HR3 := hide (HRX.out.below hr3.b); have HS3 := hide hr3.own; have HN3 : Hid (∀ q, (Value.slice a3 S3.length c3).ownBlock = some q → (Value.slice ao Y.length cc).ownBlock ≠ some q) := hide (fun q hq e => by have h1 := (own_lt0 hr3.own hq).1; have h2 := (own_lt0 HRX.out.own e).2; omega); clear hr3))
      generalize wr.heap.size = bz at *
      go_loopw [6, 36] (fun a d wr => ∃ (j : Nat) (X : List Rp), j ≤ S3.length ∧ d = .int .i64 j ∧ X = Y ++ S3.take j ∧ RepI w0 wr a X ∧ wr.ownsRow bz 75 3 (.slice a3 S3.length c3) S3.length (S3.flatMap rpV) ∧ (∀ q, (Value.slice a3 S3.length c3).ownBlock = some q → a.ownBlock ≠ some q)) (fun _ d _ => S3.length - (intOf d).toNat)
      case atStart => exact ⟨0, Y, by omega, rfl, by simp, HR3.out, HS3.out, HN3.out⟩
      case round =>
        clear HR3 HS3 HN3 HNE HSO HRX
        obtain ⟨j, Z, hj, rfl, hX, hrx, hso, hne⟩ := hrel
        have HRX := hide hrx
        have HSO := hide hso
        have HNE := hide hne
        have HX := hide hX
        clear hrx hso hne hX
        obtain ⟨ao, cc, hv⟩ := own_v HRX.out.own
        subst hv
        have hXl : Z.length ≤ 40000 := by have h := HLN.out; have h2 := HX.out; have h3 : (S3.take j).length ≤ S3.length := by simp; omega
                                          skip
                                          rw [h2, List.length_append]; omega
        by_cases hjt : j < S3.length
        · obtain ⟨r, hr⟩ : ∃ r, S3[j]? = some r := ⟨S3[j], List.getElem?_eq_getElem hjt⟩
          obtain ⟨g2, cap2, hv2, _, hg2, _, _, hr2⟩ := own_el rpV_len HSO.out hr
          cases hv2
          have d0 : wr.cell? ⟨g2, j * 3, none⟩ = some (.int .i64 r.1) := hr2 0 _ rfl
          have d1 : wr.cell? ⟨g2, j * 3 + 1, none⟩ = some (.int .i64 r.2.1) := hr2 1 _ rfl
          have d2 : wr.cell? ⟨g2, j * 3 + 2, none⟩ = some (.int .i64 r.2.2) := hr2 2 _ rfl
          have HTN := hide (take_next hr Y)
          have hjI : (0 : Int) ≤ (j : Int) := by omega
          have hsz := HRX.out.b.size
          clear hr2 hr
          go_wp2_with (first | (at_builtin; refine wpList_push (f := rpV) rpV_len rfl _ _ 35 rfl w0.heap.size 75 i0 _ 24 Try.underlying35 hj0 hz0 hz1 hz2 rfl (by decide) _ Z r rfl ⟨_, 0, none⟩ rfl ?_ ?_ ?_ ?_ ?_ ?_ ?_; (exact (HRX.out.own.alloc _).alloc _); (first | exact newsL _ _ _ | exact news2 wr _ (rpV r) 75); (intro x hx; simp [rpV] at hx; rcases hx with rfl | rfl | rfl <;> rfl); (unfold maxLen; omega); (omega); (simp; omega); intro ao' cc' w5 hown' hbel' hsame' hat'; have HO5 := hide hown'; have HBL5 := hide hbel'; have HS5 := hide hsame'; have HAT5 := hide hat'; clear hown' hbel' hsame' hat'))
          go_round
          case measure => simp [intOf]; omega
          case rel =>
            obtain ⟨t1, t2, t3⟩ := two_step HRX.out HSO.out HNE.out HO5.out HBL5.out HS5.out HAT5.out
            exact ⟨j + 1, _, by omega, by go_num, by rw [HTN.out, ← HX.out], t1, t2, t3⟩
        · have e : j = S3.length := by omega
          subst e
          rw [List.take_length, ← HY.out, HAE.out] at HX
          have hZF := HX.out
          subst hZF
          clear HX
          go_wp2
          go_ret2
          exact ⟨ao, cc, rfl, own_mono HRX.out.own HB0.out.size, below_go HB0.out HRX.out.b⟩
theorem panalyse_any (s : ByteArray) (w : World) (hs : s.size ≤ maxLen) : Calls Try.prog 32 #[.string s] w (RPost w (Wd.readP s.data.toList)) := by
  cases hr : Wd.readP s.data.toList with
  | ok its =>
    refine (panalyse_ok s w its hs hr).mono ?_
    rintro e w' ⟨ao, cc, rfl, h⟩
    exact ⟨h.b, ao, cc, rfl, h.own⟩
  | error x =>
    refine (panalyse_err s w x hs hr).mono ?_
    rintro e w' ⟨rfl, hb⟩
    exact ⟨hb, rfl⟩
end Go.Proofs.Ytecmfdkhcffpmab
