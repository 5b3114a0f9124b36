/- StT, KpO. -/
import Derived.Test.YtecmfdkhcffpmaaB45
import Derived.Test.YtecmfdkhcffpmaaB42
import Derived.Test.YtecmfdkhcffpmaaB46
/- Contracts of the program's Show. -/
namespace Go.Proofs.Ytecmfdkhcffpmaa
open Go.RowKit
set_option linter.unusedSimpArgs false
set_option linter.unusedVariables false
set_option maxHeartbeats 8000000
open Mc

set_option maxRecDepth 100000 in
theorem show_err (s : ByteArray) (w : World) (x : Int × Int) (K I P : Int) (hs : s.size ≤ maxLen) (hread : Wd.readP s.data.toList = .error x) :
    Calls Try.prog 64 #[.string s, .agg #[.int .i64 K, .int .i64 I, .int .i64 P]] w fun e w' => e = .returned (.tuple #[.string (Wd.mkS []), .int .i64 x.1]) ∧ Below w.heap.size w w' := by
  have hx := Wd.readP_err hread
  have HX := fun W => sourceUnfold_any s W hs
  rw [hread] at HX
  have HXX := hide HX
  clear HX hread
  have hne : (x.1 != 0) = true := by simp [hx]
  have HB0 := hide (below_one w (.cells #[.int .i64 K, .int .i64 I, .int .i64 P] 41))
  go_enter Try.func64, Try.ntmps64
  go_wp2_with (first | (go_at_call 52; refine (HXX.out _).mono ?_; rintro e w1 ⟨hb1, rfl⟩; have HB1 := hide (below_go HB0.out hb1); clear hb1))
  go_ret2
  exact ⟨rfl, HB1.out⟩
set_option maxRecDepth 100000 in
theorem show_out (s : ByteArray) (w : World) (its : List Wd.It) (K I P : Int) (hs : s.size ≤ maxLen) (hread : Wd.readP s.data.toList = .ok its) (hI : ¬ (0 ≤ I ∧ I < its.length)) :
    Calls Try.prog 64 #[.string s, .agg #[.int .i64 K, .int .i64 I, .int .i64 P]] w fun e w' => e = .returned (.tuple #[.string (Wd.mkS []), .int .i64 8]) ∧ Below w.heap.size w w' := by
  have HX := fun W => sourceUnfold_any s W hs
  rw [hread] at HX
  have HXX := hide HX
  clear HX hread
  have HR0 := hide (Row.new w #[.int .i64 K, .int .i64 I, .int .i64 P] 41)
  have HB0 := hide (below_one w (.cells #[.int .i64 K, .int .i64 I, .int .i64 P] 41))
  go_enter Try.func64, Try.ntmps64
  by_cases h0 : I < 0
  · clear hI
    go_wp2_with (first | (go_at_call 52; refine (HXX.out _).mono ?_; rintro e w1 ⟨hb1, g0, c0, rfl, hown1⟩; have HB1 := hide (below_go HB0.out hb1); have HR1 := hide (HR0.out.below hb1); have i1 : w1.cell? ⟨w.heap.size, 1, none⟩ = some (.int .i64 I) := HR1.out.cell 1 rfl; clear hb1 hown1))
    go_ret2
    exact ⟨rfl, HB1.out⟩
  · have h1 : ¬ I < (its.length : Int) := fun h => hI ⟨by omega, h⟩
    clear hI
    go_wp2_with (first | (go_at_call 52; refine (HXX.out _).mono ?_; rintro e w1 ⟨hb1, g0, c0, rfl, hown1⟩; have HB1 := hide (below_go HB0.out hb1); have HR1 := hide (HR0.out.below hb1); have i1 : w1.cell? ⟨w.heap.size, 1, none⟩ = some (.int .i64 I) := HR1.out.cell 1 rfl; clear hb1 hown1))
    go_ret2
    exact ⟨rfl, HB1.out⟩
/-- What Show answers of an item that there is. -/
def ShowIn (i : Nat) (hd : Bool) (b : List UInt8) (K P : Int) (e : Ending) : Prop :=
  ∃ L, RFin hd b L ∧ ((∃ (j : Nat) (r : Rc), L[j]? = some r ∧ kd hd b r.st = K ∧ K ≠ 0 ∧ (r.p : Int) = P ∧ e = .returned (.tuple #[.string (Wd.mkS (scriptP i b (wayP L j))), .int .i64 0])) ∨
    ((∀ r ∈ L, ¬ (kd hd b r.st ≠ 0 ∧ kd hd b r.st = K ∧ (r.p : Int) = P)) ∧ e = .returned (.tuple #[.string (Wd.mkS []), .int .i64 8])))
theorem wayP_mem {L : List Rc} {j : Nat} {r : Rc} (h : r ∈ wayP L j) : r ∈ L := by
  unfold wayP at h
  rw [List.mem_reverse] at h
  have key : ∀ n i, r ∈ wayBack L n i → r ∈ L := by
    intro n
    induction n with
    | zero => intro i h; simp [wayBack] at h
    | succ n ih =>
      intro i h
      unfold wayBack at h
      split at h
      · simp at h
      · split at h
        · simp at h
        · rename_i q hq
          rcases List.mem_cons.1 h with h | h
          · rw [h]; exact List.mem_of_getElem? hq
          · exact ih _ h
  exact key _ _ h
theorem row_code {w : World} {g lg : Nat} {hd : Bool} {s0 : ByteArray} {u : Value} (h : Row w g #[.bool hd, .bool hd, .string s0, .slice (some ⟨lg, 0, none⟩) s0.size s0.size, u] 150) : w.rangeAt g 1 [.bool hd, .string s0, .slice (some ⟨lg, 0, none⟩) s0.size s0.size] := h.range 1 _ (fun j v hj => by
  have hlt : j < 3 := (List.getElem?_eq_some_iff.1 hj).1
  match j, hlt with
  | 0, _ | 1, _ | 2, _ => exact hj)
structure ShI (w W : World) (hd : Bool) (s0 : ByteArray) (lg gk : Nat) (kao : Option Addr) (kc : Nat) (L : List Rc) (K I P : Int) : Prop where
  rr : Row W w.heap.size #[.int .i64 K, .int .i64 I, .int .i64 P] 41
  kr : Row W gk #[.bool hd, .bool hd, .string s0, .slice (some ⟨lg, 0, none⟩) s0.size s0.size, .slice kao L.length kc] 150
  own : W.ownsRow 0 153 10 (.slice kao L.length kc) L.length (rcsV L)
  b : Below w.heap.size w W
theorem ShI.below {w W W' : World} {hd : Bool} {s0 : ByteArray} {lg gk : Nat} {kao : Option Addr} {kc : Nat} {L : List Rc} {K I P : Int} (h : ShI w W hd s0 lg gk kao kc L K I P) (hb : Below W.heap.size W W') : ShI w W' hd s0 lg gk kao kc L K I P :=
  ⟨h.rr.below hb, h.kr.below hb, own_belowZ h.own hb, below_go h.b hb⟩
set_option maxRecDepth 100000 in
theorem show_in (s : ByteArray) (w : World) (its : List Wd.It) (i : Nat) (K P : Int) (hs : s.size ≤ maxLen) (hread : Wd.readP s.data.toList = .ok its) (hi : i < its.length) :
    Calls Try.prog 64 #[.string s, .agg #[.int .i64 K, .int .i64 i, .int .i64 P]] w fun e w' => ShowIn i (isH its i) (bodyOf its i) K P e ∧ Below w.heap.size w w' := by
  have HF := hide (fine_of hread)
  have hlen8 := HF.out.len
  have HX := fun W => sourceUnfold_any s W hs
  rw [hread] at HX
  have HXX := hide HX
  clear HX hread
  have hgb := hide (HF.out.gb hi)
  have hbl : (bodyOf its i).length ≤ 300 := hgb.out.short
  have AK := hide (fun W => knownOf_any (isH its i) (Wd.mkS (bodyOf its i)) W (by rw [Wd.mkS_size]; exact hbl) (by rw [Wd.mkS_list]; exact hgb.out))
  have HIT : Hid (∀ (W : World) b v, W.ownsRow b 31 2 v its.length (Wd.itsV its) → ∃ g c, v = .slice (some ⟨g, 0, none⟩) its.length c ∧ g < W.heap.size ∧ W.rangeAt g (i * 2) [.bool (isH its i), .string (Wd.mkS (bodyOf its i))]) := by
    apply hide
    intro W b v h
    obtain ⟨g, cap, hv, hb, hlt, hr⟩ := own_el (f := Wd.itV) (n := 2) (L := its) (fun _ => rfl) h (i := i) (r := its[i]) (List.getElem?_eq_getElem hi)
    have e1 : isH its i = its[i].handler := by simp [isH, List.getD, hi]
    have e2 : bodyOf its i = its[i].body := by simp [bodyOf, List.getD, hi]
    rw [e1, e2]
    exact ⟨g, cap, hv, hlt, hr.2.2⟩
  have hsz0 : (Wd.mkS (bodyOf its i)).size = (bodyOf its i).length := Wd.mkS_size _
  obtain ⟨hd, hhd⟩ : ∃ hd, isH its i = hd := ⟨_, rfl⟩
  obtain ⟨s0, hs0⟩ : ∃ s0, Wd.mkS (bodyOf its i) = s0 := ⟨_, rfl⟩
  have hbo : bodyOf its i = s0.data.toList := by rw [← hs0]; rfl
  rw [hhd, hs0] at AK HIT
  rw [hhd, hbo]
  have HGB := hide (show GB s0.data.toList by rw [← hbo]; exact hgb.out)
  have hs03 : s0.size ≤ 300 := by rw [← hs0, hsz0]; exact hbl
  clear hhd hs0 hbo hgb hbl hsz0
  have hi0 : (0 : Int) ≤ (i : Int) := by omega
  have hil : (i : Int) < (its.length : Int) := by omega
  have HR0 := hide (Row.new w #[.int .i64 K, .int .i64 (i : Int), .int .i64 P] 41)
  have HB0 := hide (below_one w (.cells #[.int .i64 K, .int .i64 (i : Int), .int .i64 P] 41))
  go_enter Try.func64, Try.ntmps64
  go_wp2_with (first | (refine wpList_store_row rfl 150 _ _ rfl w2.heap.size #[.bool hd, .bool hd, .string s0, .slice (some ⟨lg, 0, none⟩) s0.size s0.size, .slice kao L.length kc] rfl rfl 150 #[.bool false, .bool false, .string ⟨#[]⟩, .slice none 0 0, .slice none 0 0] ?_ Try.iKnown rfl (by simp [Value.oneCell']) ?_; (exact (Row.new w2 #[.bool false, .bool false, .string ⟨#[]⟩, .slice none 0 0, .slice none 0 0] 150).raw); rw [World.setRow_alloc_new]; have HS3 : Hid (ShI w (w2.alloc (.cells #[.bool hd, .bool hd, .string s0, .slice (some ⟨lg, 0, none⟩) s0.size s0.size, .slice kao L.length kc] 150)) hd s0 lg w2.heap.size kao kc L K i P) := hide ⟨HR2.out.alloc _, Row.new _ _ _, HO2.out.alloc _, below_new HB2.out _⟩; generalize w2.alloc (.cells #[.bool hd, .bool hd, .string s0, .slice (some ⟨lg, 0, none⟩) s0.size s0.size, .slice kao L.length kc] 150) = w3 at *; have k4 : w3.cell? ⟨w2.heap.size, 4, none⟩ = some (.slice kao L.length kc) := HS3.out.kr.cell 4 rfl) | (go_at_call 98; refine (AK.out _).mono ?_; rintro e w2 ⟨kv, L, lg, rfl, hown2, hfin2, hb2⟩; obtain ⟨kao, kc, hkv⟩ := own_v hown2; subst hkv; have HFN := hide hfin2; have HB2 := hide (below_go HB1.out hb2); have HR2 := hide (HR1.out.below hb2); have HO2 := hide (own_mono hown2 (Nat.zero_le _)); clear hown2 hfin2 hb2) | (go_at_call 52; refine (HXX.out _).mono ?_; rintro e w1 ⟨hb1, g0, c0, rfl, hown1⟩; have HB1 := hide (below_go HB0.out hb1); have HR1 := hide (HR0.out.below hb1); have i1 : w1.cell? ⟨w.heap.size, 1, none⟩ = some (.int .i64 (i : Int)) := HR1.out.cell 1 rfl; obtain ⟨gi, ci, hvi, hgi, hri⟩ := HIT.out _ _ _ hown1; cases hvi; have d0 : w1.cell? ⟨g0, i * 2, none⟩ = some (.bool hd) := hri 0 _ rfl; have d1 : w1.cell? ⟨g0, i * 2 + 1, none⟩ = some (.string s0) := hri 1 _ rfl; clear hb1 hown1 hri))
  clear k4 d0 d1 i1 HXX HIT AK
  have hLl : L.length ≤ 100000 := by have h1 := HFN.out.len HGB.out; have h2 := HGB.out.short; have h3 := Nat.mul_le_mul_right 128 (show s0.data.toList.length + 1 ≤ 301 by omega); omega
  generalize w2.heap.size = gk at *
  clear HB2 HR2 HO2 HB1 HR1 HR0 HB0
  go_loopw [40] (fun a wr => ∃ j : Nat, j ≤ L.length ∧ a = .int .i64 j ∧ ShI w wr hd s0 lg gk kao kc L K i P ∧ ∀ r ∈ L.take j, ¬ (kd hd s0.data.toList r.st ≠ 0 ∧ kd hd s0.data.toList r.st = K ∧ (r.p : Int) = P)) (fun a _ => L.length - (intOf a).toNat)
  case atStart => exact ⟨0, by omega, rfl, HS3.out, fun r hr => by simp at hr⟩
  case round =>
    clear HS3
    obtain ⟨j, hj, rfl, hsh, hno⟩ := hrel
    have HS := hide hsh
    have HN := hide hno
    clear hsh hno
    by_cases hjt : j < L.length
    · obtain ⟨r, hr⟩ : ∃ r, L[j]? = some r := ⟨L[j], List.getElem?_eq_getElem hjt⟩
      have HRJ := hide hr
      have hso := HFN.out.ok HGB.out (List.mem_of_getElem? hr)
      have hrp : r.p ≤ 300 := by have h1 := hso.2.le; have h3 : r.st.1 = r.p := rfl; have h4 := Wd.len_str s0; omega
      have hrh : r.h < 64 := hso.1
      obtain ⟨g1, cap1, hv1, _, hg1, _, _, hr1⟩ := own_rc HS.out.own hr
      cases hv1
      have HR1 : Hid (wr.rangeAt g1 (j * 10) (rcV r)) := hide hr1
      have hj0 : (0 : Int) ≤ (j : Int) := by omega
      have hji : (j : Int) < (L.length : Int) := by omega
      have AK : Hid (∀ W, Calls Try.prog 99 #[.agg [.bool hd, .string s0, .slice (some ⟨lg, 0, none⟩) s0.size s0.size].toArray, .agg (stA r.p r.h r.off)] W fun e w' => e = .returned (.int .i64 (kd hd s0.data.toList r.st)) ∧ Below W.heap.size W w') := hide (fun W => kindAt_any hd s0 (some ⟨lg, 0, none⟩) s0.size s0.size r.p r.h r.off W (by omega) (by omega) hrh HGB.out.pair)
      have HNX : Hid (¬ (kd hd s0.data.toList r.st ≠ 0 ∧ kd hd s0.data.toList r.st = K ∧ (r.p : Int) = P) → ∀ q ∈ L.take (j + 1), ¬ (kd hd s0.data.toList q.st ≠ 0 ∧ kd hd s0.data.toList q.st = K ∧ (q.p : Int) = P)) := hide (fun hn q hq => by
        rw [List.take_add_one, hr] at hq
        rcases List.mem_append.1 hq with hq | hq
        · exact HN.out q hq
        · simp at hq; subst hq; exact hn)
      have HKD : Hid (kd hd s0.data.toList r.st = kd hd s0.data.toList r.st) := hide rfl
      obtain ⟨z, hz⟩ : ∃ z, kd hd s0.data.toList r.st = z := ⟨_, rfl⟩
      rw [hz] at AK HNX
      have HZ := hide hz
      clear hr hr1 hso hz HKD
      by_cases hz0 : z = 0
      · have hn : ¬ (z ≠ 0 ∧ z = K ∧ (r.p : Int) = P) := fun h => h.1 hz0
        have HHN := hide (HNX.out hn)
        clear hn HNX
        subst hz0
        go_wp2_with (first | (refine wpList_load_mid rfl 114 _ rfl _ _ rfl (stV r) _ ?_ Try.underlying114 rfl (Try.iStV r) ?_; (exact HRR1.out.st8); rw [stV_arr]) | (refine wpList_load_mid rfl 111 _ rfl _ _ rfl [.bool hd, .string s0, .slice (some ⟨lg, 0, none⟩) s0.size s0.size] _ ?_ Try.underlying111 rfl Try.iCode ?_; (exact row_code HS1.out.kr)) | (refine wpList_store_row rfl 153 _ _ rfl wr.heap.size (rcA r) rfl rfl 153 #[.int .i64 0, .bool false, .bool false, .bool false, .bool false, .bool false, .bool false, .bool false, .int .i64 0, .bool false] ?_ (Try.iRc _) rfl (rcA_one _) ?_; (exact (Row.new wr #[.int .i64 0, .bool false, .bool false, .bool false, .bool false, .bool false, .bool false, .bool false, .int .i64 0, .bool false] 153).raw); rw [World.setRow_alloc_new]; have HS1 := hide (HS.out.below (below_one wr (.cells (rcA r) 153))); have HRR1 := hide (Row.new wr (rcA r) 153); generalize wr.alloc (.cells (rcA r) 153) = w1 at *; have HTK := hide True.intro) | (refine wpList_load_mid rfl 153 _ rfl _ _ rfl (rcV r) _ ?_ Try.underlying153 rfl Try.iReached ?_; (exact HR1.out)))
        go_at_call 99
        refine (AK.out _).mono ?_
        rintro e w2 ⟨rfl, hb2⟩
        have HS2 := hide (HS1.out.below hb2)
        have HRR2 := hide (HRR1.out.below hb2)
        have y0 : w2.cell? ⟨w.heap.size, 0, none⟩ = some (.int .i64 K) := HS2.out.rr.cell 0 rfl
        have y2 : w2.cell? ⟨w.heap.size, 2, none⟩ = some (.int .i64 P) := HS2.out.rr.cell 2 rfl
        have y1 : w2.cell? ⟨w.heap.size, 1, none⟩ = some (.int .i64 (i : Int)) := HS2.out.rr.cell 1 rfl
        have p0 : w2.cell? ⟨wr.heap.size, 0, none⟩ = some (.int .i64 (r.p : Int)) := HRR2.out.cell 0 (rcA_p r)
        have k4 : w2.cell? ⟨gk, 4, none⟩ = some (.slice (some ⟨g1, 0, none⟩) L.length kc) := HS2.out.kr.cell 4 rfl
        clear hb2
        go_wp2
        go_round
        case measure => simp [intOf]; omega
        case rel => exact ⟨j + 1, by omega, by go_num, HS2.out, HHN.out⟩
      have bz : (z != 0) = true := by simp [hz0]
      have HZ0 := hide hz0
      clear hz0
      by_cases hzk : z = K
      case neg =>
        have hn : ¬ (z ≠ 0 ∧ z = K ∧ (r.p : Int) = P) := fun h => hzk h.2.1
        have HHN := hide (HNX.out hn)
        have bk : (z == K) = false := by simp [hzk]
        clear hn HNX hzk
        go_wp2_with (first | (refine wpList_load_mid rfl 114 _ rfl _ _ rfl (stV r) _ ?_ Try.underlying114 rfl (Try.iStV r) ?_; (exact HRR1.out.st8); rw [stV_arr]) | (refine wpList_load_mid rfl 111 _ rfl _ _ rfl [.bool hd, .string s0, .slice (some ⟨lg, 0, none⟩) s0.size s0.size] _ ?_ Try.underlying111 rfl Try.iCode ?_; (exact row_code HS1.out.kr)) | (refine wpList_store_row rfl 153 _ _ rfl wr.heap.size (rcA r) rfl rfl 153 #[.int .i64 0, .bool false, .bool false, .bool false, .bool false, .bool false, .bool false, .bool false, .int .i64 0, .bool false] ?_ (Try.iRc _) rfl (rcA_one _) ?_; (exact (Row.new wr #[.int .i64 0, .bool false, .bool false, .bool false, .bool false, .bool false, .bool false, .bool false, .int .i64 0, .bool false] 153).raw); rw [World.setRow_alloc_new]; have HS1 := hide (HS.out.below (below_one wr (.cells (rcA r) 153))); have HRR1 := hide (Row.new wr (rcA r) 153); generalize wr.alloc (.cells (rcA r) 153) = w1 at *; have HTK := hide True.intro) | (refine wpList_load_mid rfl 153 _ rfl _ _ rfl (rcV r) _ ?_ Try.underlying153 rfl Try.iReached ?_; (exact HR1.out)))
        go_at_call 99
        refine (AK.out _).mono ?_
        rintro e w2 ⟨rfl, hb2⟩
        have HS2 := hide (HS1.out.below hb2)
        have HRR2 := hide (HRR1.out.below hb2)
        have y0 : w2.cell? ⟨w.heap.size, 0, none⟩ = some (.int .i64 K) := HS2.out.rr.cell 0 rfl
        have y2 : w2.cell? ⟨w.heap.size, 2, none⟩ = some (.int .i64 P) := HS2.out.rr.cell 2 rfl
        have y1 : w2.cell? ⟨w.heap.size, 1, none⟩ = some (.int .i64 (i : Int)) := HS2.out.rr.cell 1 rfl
        have p0 : w2.cell? ⟨wr.heap.size, 0, none⟩ = some (.int .i64 (r.p : Int)) := HRR2.out.cell 0 (rcA_p r)
        have k4 : w2.cell? ⟨gk, 4, none⟩ = some (.slice (some ⟨g1, 0, none⟩) L.length kc) := HS2.out.kr.cell 4 rfl
        clear hb2
        go_wp2
        go_round
        case measure => simp [intOf]; omega
        case rel => exact ⟨j + 1, by omega, by go_num, HS2.out, HHN.out⟩
      by_cases hpp : (r.p : Int) = P
      case neg =>
        have hn : ¬ (z ≠ 0 ∧ z = K ∧ (r.p : Int) = P) := fun h => hpp h.2.2
        have HHN := hide (HNX.out hn)
        have bp : ((r.p : Int) == P) = false := by simp [hpp]
        have bk : (z == z) = true := by simp
        clear hn HNX hpp
        subst hzk
        go_wp2_with (first | (refine wpList_load_mid rfl 114 _ rfl _ _ rfl (stV r) _ ?_ Try.underlying114 rfl (Try.iStV r) ?_; (exact HRR1.out.st8); rw [stV_arr]) | (refine wpList_load_mid rfl 111 _ rfl _ _ rfl [.bool hd, .string s0, .slice (some ⟨lg, 0, none⟩) s0.size s0.size] _ ?_ Try.underlying111 rfl Try.iCode ?_; (exact row_code HS1.out.kr)) | (refine wpList_store_row rfl 153 _ _ rfl wr.heap.size (rcA r) rfl rfl 153 #[.int .i64 0, .bool false, .bool false, .bool false, .bool false, .bool false, .bool false, .bool false, .int .i64 0, .bool false] ?_ (Try.iRc _) rfl (rcA_one _) ?_; (exact (Row.new wr #[.int .i64 0, .bool false, .bool false, .bool false, .bool false, .bool false, .bool false, .bool false, .int .i64 0, .bool false] 153).raw); rw [World.setRow_alloc_new]; have HS1 := hide (HS.out.below (below_one wr (.cells (rcA r) 153))); have HRR1 := hide (Row.new wr (rcA r) 153); generalize wr.alloc (.cells (rcA r) 153) = w1 at *; have HTK := hide True.intro) | (refine wpList_load_mid rfl 153 _ rfl _ _ rfl (rcV r) _ ?_ Try.underlying153 rfl Try.iReached ?_; (exact HR1.out)))
        go_at_call 99
        refine (AK.out _).mono ?_
        rintro e w2 ⟨rfl, hb2⟩
        have HS2 := hide (HS1.out.below hb2)
        have HRR2 := hide (HRR1.out.below hb2)
        have y0 : w2.cell? ⟨w.heap.size, 0, none⟩ = some (.int .i64 z) := HS2.out.rr.cell 0 rfl
        have y2 : w2.cell? ⟨w.heap.size, 2, none⟩ = some (.int .i64 P) := HS2.out.rr.cell 2 rfl
        have y1 : w2.cell? ⟨w.heap.size, 1, none⟩ = some (.int .i64 (i : Int)) := HS2.out.rr.cell 1 rfl
        have p0 : w2.cell? ⟨wr.heap.size, 0, none⟩ = some (.int .i64 (r.p : Int)) := HRR2.out.cell 0 (rcA_p r)
        have k4 : w2.cell? ⟨gk, 4, none⟩ = some (.slice (some ⟨g1, 0, none⟩) L.length kc) := HS2.out.kr.cell 4 rfl
        clear hb2
        go_wp2
        go_round
        case measure => simp [intOf]; omega
        case rel => exact ⟨j + 1, by omega, by go_num, HS2.out, HHN.out⟩
      case pos =>
        clear HNX
        subst hzk hpp
        have AW := hide (fun W v b (h : W.ownsRow b 153 10 v L.length (L.flatMap rcV)) => wayTo_any W L v b j HFN.out.fr (by omega) hjt h)
        have HWM : Hid (∀ q ∈ wayP L j, q.p ≤ 300) := hide (fun q hq => by have h1 := (HFN.out.ok HGB.out (wayP_mem hq)).2.le; have h3 : q.st.1 = q.p := rfl; have h4 := Wd.len_str s0; omega)
        have hwl : (wayP L j).length ≤ 100000 := by unfold wayP; rw [List.length_reverse]; have := wayBack_len L j j; omega
        have ASc := hide (fun W v b h hb => pscript_any i hd s0 lg (wayP L j) v b W (by omega) (by omega) hwl HWM.out h hb)
        have HPOST : Hid (∀ e, e = .returned (.tuple #[.string (Wd.mkS (scriptP i s0.data.toList (wayP L j))), .int .i64 0]) → ShowIn i hd s0.data.toList z (r.p : Int) e) := hide (fun e he => ⟨L, HFN.out, Or.inl ⟨j, r, HRJ.out, HZ.out, HZ0.out, rfl, he⟩⟩)
        generalize scriptP i s0.data.toList (wayP L j) = SC at *
        generalize wayP L j = WY at *
        go_wp2_with (first | (refine wpList_load_mid rfl 114 _ rfl _ _ rfl (stV r) _ ?_ Try.underlying114 rfl (Try.iStV r) ?_; (exact HRR1.out.st8); rw [stV_arr]) | (refine wpList_load_mid rfl 111 _ rfl _ _ rfl [.bool hd, .string s0, .slice (some ⟨lg, 0, none⟩) s0.size s0.size] _ ?_ Try.underlying111 rfl Try.iCode ?_; (exact row_code HS1.out.kr)) | (refine wpList_store_row rfl 153 _ _ rfl wr.heap.size (rcA r) rfl rfl 153 #[.int .i64 0, .bool false, .bool false, .bool false, .bool false, .bool false, .bool false, .bool false, .int .i64 0, .bool false] ?_ (Try.iRc _) rfl (rcA_one _) ?_; (exact (Row.new wr #[.int .i64 0, .bool false, .bool false, .bool false, .bool false, .bool false, .bool false, .bool false, .int .i64 0, .bool false] 153).raw); rw [World.setRow_alloc_new]; have HS1 := hide (HS.out.below (below_one wr (.cells (rcA r) 153))); have HRR1 := hide (Row.new wr (rcA r) 153); generalize wr.alloc (.cells (rcA r) 153) = w1 at *; have HTK := hide True.intro) | (refine wpList_load_mid rfl 153 _ rfl _ _ rfl (rcV r) _ ?_ Try.underlying153 rfl Try.iReached ?_; (exact HR1.out)))
        go_at_call 99
        refine (AK.out _).mono ?_
        rintro e w2 ⟨rfl, hb2⟩
        have HS2 := hide (HS1.out.below hb2)
        have HRR2 := hide (HRR1.out.below hb2)
        have y0 : w2.cell? ⟨w.heap.size, 0, none⟩ = some (.int .i64 z) := HS2.out.rr.cell 0 rfl
        have y2 : w2.cell? ⟨w.heap.size, 2, none⟩ = some (.int .i64 (r.p : Int)) := HS2.out.rr.cell 2 rfl
        have y1 : w2.cell? ⟨w.heap.size, 1, none⟩ = some (.int .i64 (i : Int)) := HS2.out.rr.cell 1 rfl
        have p0 : w2.cell? ⟨wr.heap.size, 0, none⟩ = some (.int .i64 (r.p : Int)) := HRR2.out.cell 0 (rcA_p r)
        have k4 : w2.cell? ⟨gk, 4, none⟩ = some (.slice (some ⟨g1, 0, none⟩) L.length kc) := HS2.out.kr.cell 4 rfl
        clear hb2
        go_wp2_with fail
        go_at_call 100
        refine (AW.out _ _ _ HS2.out.own).mono ?_
        rintro e w5 ⟨ao5, cc5, rfl, hown5, hb5⟩
        have HS5 := hide (HS2.out.below hb5)
        have HO5 := hide hown5
        have hb5s := hb5.size
        have y5 : w5.cell? ⟨w.heap.size, 1, none⟩ = some (.int .i64 (i : Int)) := HS5.out.rr.cell 1 rfl
        clear hb5 hown5
        go_wp2_with (first | (refine wpList_load_mid rfl 111 _ rfl _ _ rfl [.bool hd, .string s0, .slice (some ⟨lg, 0, none⟩) s0.size s0.size] _ ?_ Try.underlying111 rfl Try.iCode ?_; (exact row_code HS5.out.kr)))
        go_at_call 101
        refine (ASc.out _ _ _ HO5.out hb5s).mono ?_
        rintro e w6 ⟨rfl, hb6⟩
        have HB6 := hide (below_go HS5.out.b hb6)
        clear hb6
        go_wp2
        go_ret2
        exact ⟨HPOST.out _ rfl, HB6.out⟩
    · have HPOST : Hid (∀ e, e = .returned (.tuple #[.string (Wd.mkS []), .int .i64 8]) → ShowIn i hd s0.data.toList K P e) := hide (fun e he => ⟨L, HFN.out, Or.inr ⟨fun r hr => HN.out r (by rw [List.take_of_length_le (by omega)]; exact hr), he⟩⟩)
      go_wp2
      go_ret2
      exact ⟨HPOST.out _ rfl, HS.out.b⟩
end Go.Proofs.Ytecmfdkhcffpmaa
/- Plain: items with which something goes wrong, and what is told of them. -/
namespace Go.Proofs.Ytecmfdkhcffpmaa
open Go.RowKit
set_option linter.unusedSimpArgs false
set_option linter.unusedVariables false
open Mc
namespace Mc
open Wd
def lkB (a : Nat) : UInt8 := b8 (97 + a)
def clB (k : Nat) : UInt8 := b8 (48 + k)
theorem solo_mem {its : List It} {k i p : Nat} (hk : 1 ≤ k) (hk5 : k ≤ 5) (hi : i < its.length) (hp : p < (bodyOf its i).length + 1) (hb : BadAt (isH its i) (bodyOf its i) k p) : ((k : Int), (i : Int), (p : Int)) ∈ analyseS its := by
  unfold analyseS
  rw [List.mem_append, List.mem_append]
  left; left
  unfold soloS solos
  rw [List.mem_flatMap]
  refine ⟨k - 1, by simp; omega, ?_⟩
  rw [show k - 1 + 1 = k by omega]
  unfold soloK
  rw [List.mem_flatMap]
  refine ⟨i, by simpa using hi, ?_⟩
  unfold soloRow
  rw [List.mem_map]
  refine ⟨p, ?_, rfl⟩
  rw [List.mem_filter]
  exact ⟨by simpa using hp, by simpa using hb⟩
theorem h0 : ∀ a, a < 6 → stp false [43, lkB a, 122, 45, lkB a] (0, 0, false) false = (2, 2 ^ a, false) ∧ kd false [43, lkB a, 122, 45, lkB a] (2, 2 ^ a, false) = 3 := by decide
theorem h1 : ∀ a, a < 6 → kd false [45, lkB a] (0, 0, false) = 2 := by decide
theorem h2 : ∀ a, a < 6 → stp false [91, 43, lkB a, 93] (stp false [91, 43, lkB a, 93] (stp false [91, 43, lkB a, 93] (stp false [91, 43, lkB a, 93] (0, 0, false) false) false) false) false = (1, 2 ^ a, false) ∧ kd false [91, 43, lkB a, 93] (1, 2 ^ a, false) = 1 := by decide
theorem h3 : ∀ a, a < 6 → stp false [40, 43, lkB a, 124, 41] (stp false [40, 43, lkB a, 124, 41] (stp false [40, 43, lkB a, 124, 41] (0, 0, false) false) false) false = (5, 2 ^ a, false) ∧ kd false [40, 43, lkB a, 124, 41] (5, 2 ^ a, false) = 4 := by decide
theorem h4 : ∀ a, a < 6 → stp true [43, lkB a, 62, 45, lkB a] (0, 0, true) false = (2, 2 ^ a, true) ∧ kd true [43, lkB a, 62, 45, lkB a] (2, 2 ^ a, true) = 5 := by decide
theorem h5 : stp false [60, 122] (0, 0, false) false = (1, 0, true) ∧ kd false [60, 122] (1, 0, true) = 3 := by decide
theorem h6 : ∀ a, a < 6 → ∀ b, b < 6 → (a == b || (decide (stp false [43, lkB a, 43, lkB b, 45, lkB b, 45, lkB a] (0, 0, false) false = (2, 2 ^ a, false)) && (tkP [43, lkB a, 43, lkB b, 45, lkB b, 45, lkB a] 2 (2 ^ a)).testBit b)) = true := by decide
theorem h7 : ∀ a, a < 6 → stp false [43, lkB a, 45, lkB a] (0, 0, false) false = (2, 2 ^ a, false) ∧ (tkP [43, lkB a, 45, lkB a] 0 0).testBit a = true := by decide
theorem h8 : ∀ a, a < 6 → ∀ k, k < 4 → (decide (stp false [43, lkB a, 119, clB k, 45, lkB a] (0, 0, false) false = (2, 2 ^ a, false)) && decide (atB [43, lkB a, 119, clB k, 45, lkB a] 2 = 119) && decide (numP [43, lkB a, 119, clB k, 45, lkB a] 2 = k)) = true := by decide
theorem h9 : ∀ k, k < 4 → atB [119, clB k] 0 = 119 ∧ numP [119, clB k] 0 = k := by decide
end Mc
end Go.Proofs.Ytecmfdkhcffpmaa
