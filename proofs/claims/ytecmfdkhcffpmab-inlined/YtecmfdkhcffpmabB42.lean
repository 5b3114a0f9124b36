/- StK, StN. -/
import Derived.Test.YtecmfdkhcffpmabB40
import Derived.Test.YtecmfdkhcffpmabB41
import Derived.Test.YtecmfdkhcffpmabB38
/- Contracts of the program's reports: rings. -/
namespace Go.Proofs.Ytecmfdkhcffpmab
open Go.RowKit
set_option linter.unusedSimpArgs false
set_option linter.unusedVariables false
set_option maxHeartbeats 8000000
open Mc

theorem Try.infoRep : (Try.prog.info? 75).map (fun i => (i.zero, i.size, i.bytes)) = some (some (.agg #[.int .i64 0, .int .i64 0, .int .i64 0]), 3, 24) := by kernel_rfl
def rpV (r : Rp) : List Value := [.int .i64 r.1, .int .i64 r.2.1, .int .i64 r.2.2]
theorem rpV_len (r : Rp) : (rpV r).length = 3 := rfl
/-- An own list of reports. -/
structure RepI (w W : World) (v : Value) (L : List Rp) : Prop where
  own : W.ownsRow w.heap.size 75 3 v L.length (L.flatMap rpV)
  b : Below w.heap.size w W
theorem own_nilA (w : World) (base : Nat) (t : TypeId) (n : Nat) (hb : base ≤ w.heap.size) : (w.alloc (.cells #[] t)).ownsRow base t n (.slice (some ⟨w.heap.size, 0, none⟩) 0 0) 0 [] := ⟨by simp, .inr ⟨w.heap.size, 0, #[], rfl, hb, heap_alloc_last _ _, Nat.le_refl _, by decide, by simp, by simp⟩⟩
theorem RepI.new (w : World) : RepI w (w.alloc (.cells #[] 75)) (.slice (some ⟨w.heap.size, 0, none⟩) 0 0) [] := ⟨own_nilA w _ _ _ (Nat.le_refl _), below_one _ _⟩
theorem RepI.below {w W W' : World} {v : Value} {L : List Rp} (h : RepI w W v L) (hb : Below W.heap.size W W') : RepI w W' v L := ⟨own_same h.own (fun j _ hl => hb.block j hl), below_go h.b hb⟩
theorem RepI.push {w W W' : World} {v v' : Value} {L : List Rp} {r : Rp} {o : Obj} (h : RepI w W v L) (ho : W'.ownsRow w.heap.size 75 3 v' (L ++ [r]).length ((L ++ [r]).flatMap rpV)) (hb : Below w.heap.size (W.alloc o) W') : RepI w W' v' (L ++ [r]) := ⟨ho, (h.b.alloc h.b.size o).trans hb⟩
set_option maxRecDepth 100000 in
theorem rings_any (w : World) (aao : Option Addr) (ac : Nat) (K : List Kn) (hK : KnAll w (.slice aao K.length ac) K) :
    Calls Try.prog 44 #[.slice aao K.length ac] w fun e w' => ∃ ao cc, e = .returned (.slice ao (ringL (fwK (edgesP (K.map kp)) 6) 6).length cc) ∧ RepI w w' (.slice ao (ringL (fwK (edgesP (K.map kp)) 6) 6).length cc) (ringL (fwK (edgesP (K.map kp)) 6) 6) := by
  have AE := hide (edgesOf_any (w.alloc (.cells #[] 75)) aao ac K (hK.below (below_one _ _)))
  clear hK
  have HR0 := hide (RepI.new w)
  generalize edgesP (K.map kp) = T at *
  have AF := hide (fun W => far_any T W)
  generalize fwK T 6 = F at *
  obtain ⟨i0, hj0, hz0, hz1, hz2⟩ := info_parts Try.infoRep
  go_enter Try.func44, Try.ntmps44
  go_wp2_with (first | (go_at_call 55; refine (AF.out _).mono ?_; rintro e w3 ⟨rfl, hb3⟩; have HR3 := hide (HR2.out.below hb3); clear hb3) | (refine wpList_load_row rfl 89 _ rfl _ rfl 89 (tbA T) (0, 0) _ ?_ Try.underlying89 rfl (Try.iTb _) ?_; (exact HT2.out.raw)) | (refine wpList_store_row rfl 89 _ _ rfl w1.heap.size (tbA T) rfl rfl 89 (tbA (fun _ _ => false)) ?_ (Try.iTb _) (by rw [tbA_size, tbA_size]) (tbA_one _) ?_; (exact (Row.new w1 (tbA (fun _ _ => false)) 89).raw); rw [World.setRow_alloc_new]; have HR2 := hide (HR1.out.below (below_one w1 (.cells (tbA T) 89))); have HT2 := hide (Row.new w1 (tbA T) 89); generalize w1.alloc (.cells (tbA T) 89) = w2 at *) | (refine wpList_allocT rfl rfl ?_) | (go_at_call 46; refine (AE.out).mono ?_; rintro e w1 ⟨rfl, hb1⟩; have HR1 := hide (HR0.out.below hb1); clear hb1))
  clear HR0 HR1 HR2 HT2 AE AF
  go_loopw [3, 12] (fun a c wr => ∃ l : Nat, l ≤ 6 ∧ c = .int .i64 l ∧ RepI w wr a (ringL F l)) (fun _ c _ => 6 - (intOf c).toNat)
  case atStart => exact ⟨0, by omega, rfl, HR3.out⟩
  case round =>
    clear HR3
    obtain ⟨l, hl, rfl, hr⟩ := hrel
    have HR := hide hr
    clear hr
    obtain ⟨ao, cc, hv⟩ := own_v HR.out.own
    subst hv
    by_cases hlt : l < 6
    · have hix := hide (ixRow F l hlt)
      have hl0 : (0 : Int) ≤ (l : Int) := by omega
      have hlen := ringL_len F l
      have hsz := HR.out.b.size
      have hyes := hide (ringL_yes F l)
      have hno := hide (ringL_no F l)
      have HF : Hid (∀ W, Row W wr.heap.size (bsA 6 (fun m => F l m)) 87 → W.cell? ⟨wr.heap.size, l, none⟩ = some (.bool (F l l))) := hide (fun W h => h.cell l (bsA_at _ _ _ hlt))
      generalize F l l = o at *
      generalize (fun m => F l m) = f at *
      cases o
      · go_wp2_with (first | (refine wpList_store_row rfl 87 _ _ rfl wr.heap.size (bsA 6 f) rfl rfl 87 #[.bool false, .bool false, .bool false, .bool false, .bool false, .bool false] ?_ (Try.iSix _) rfl (bsA_one _ _) ?_; (exact (Row.new wr #[.bool false, .bool false, .bool false, .bool false, .bool false, .bool false] 87).raw); rw [World.setRow_alloc_new]; have HR1 := hide (HR.out.below (below_one wr (.cells (bsA 6 f) 87))); have y1 := HF.out _ (Row.new wr (bsA 6 f) 87); have hs1 : wr.heap.size < (wr.alloc (.cells (bsA 6 f) 87)).heap.size := (Row.new wr (bsA 6 f) 87).lt; generalize wr.alloc (.cells (bsA 6 f) 87) = w1 at *) | (refine wpList_ixTo rfl _ _ _ rfl _ (hix.out _) ?_))
        go_round
        case measure => simp [intOf]; omega
        case rel => exact ⟨l + 1, by omega, by go_num, by rw [hno.out rfl]; exact HR1.out⟩
      · go_wp2_with (first | (at_builtin; refine wpList_push (f := rpV) rpV_len rfl _ _ 35 rfl (w.heap.size) 75 i0 _ 24 Try.underlying35 hj0 hz0 hz1 hz2 rfl (by decide) _ (ringL F l) (6, -1, ((l : Nat) : Int)) rfl ⟨_, 0, none⟩ rfl ?_ ?_ ?_ ?_ ?_ ?_ ?_; (exact HR1.out.own.alloc _); (exact newsL _ _ _); (intro x hx; simp [rpV] at hx; rcases hx with rfl | rfl | rfl <;> rfl); (unfold maxLen; omega); (omega); (exact (by simp; omega)); intro ao' cc' w2 hown' hbel' hsame' hat'; have HOw2 := hide hown'; have HBLw2 := hide hbel'; clear hown' hbel' hsame' hat') | (refine wpList_store_row rfl 87 _ _ rfl wr.heap.size (bsA 6 f) rfl rfl 87 #[.bool false, .bool false, .bool false, .bool false, .bool false, .bool false] ?_ (Try.iSix _) rfl (bsA_one _ _) ?_; (exact (Row.new wr #[.bool false, .bool false, .bool false, .bool false, .bool false, .bool false] 87).raw); rw [World.setRow_alloc_new]; have HR1 := hide (HR.out.below (below_one wr (.cells (bsA 6 f) 87))); have y1 := HF.out _ (Row.new wr (bsA 6 f) 87); have hs1 : wr.heap.size < (wr.alloc (.cells (bsA 6 f) 87)).heap.size := (Row.new wr (bsA 6 f) 87).lt; generalize wr.alloc (.cells (bsA 6 f) 87) = w1 at *) | (refine wpList_ixTo rfl _ _ _ rfl _ (hix.out _) ?_))
        go_round
        case measure => simp [intOf]; omega
        case rel => exact ⟨l + 1, by omega, by go_num, by rw [hyes.out rfl]; exact HR1.out.push HOw2.out HBLw2.out⟩
    · have e : l = 6 := by omega
      subst e
      go_wp2
      go_ret
      exact ⟨ao, cc, rfl, HR.out⟩
end Go.Proofs.Ytecmfdkhcffpmab
/- Contracts of the program's reports: races. -/
namespace Go.Proofs.Ytecmfdkhcffpmab
open Go.RowKit
set_option linter.unusedSimpArgs false
set_option linter.unusedVariables false
set_option maxHeartbeats 8000000
open Mc

def viV (v : Vi) : List Value := (viA v).toList
theorem viV_len (v : Vi) : (viV v).length = 128 := by simp [viV, viA_size]
theorem viV_arr (v : Vi) : (viV v).toArray = viA v := by simp [viV]
theorem viV_one (v : Vi) : ∀ u ∈ viV v, u.oneCell' = true := by
  intro u hu
  have h := viA_one v
  rw [Array.all_eq_true'] at h
  exact h u (by simpa [viV] using hu)
theorem Try.infoVi : (Try.prog.info? 143).map (fun i => (i.zero, i.size, i.bytes)) = some (some (.agg (viA noVi)), 128, 128) := by kernel_rfl
/-- The visits of those before. -/
structure BfI (w W : World) (v : Value) (V : List Vi) : Prop where
  own : W.ownsRow w.heap.size 143 128 v V.length (V.flatMap viV)
  b : Below w.heap.size w W
theorem BfI.below {w W W' : World} {v : Value} {V : List Vi} (h : BfI w W v V) (hb : Below W.heap.size W W') : BfI w W' v V := ⟨own_same h.own (fun j _ hl => hb.block j hl), below_go h.b hb⟩
theorem BfI.push {w W W' : World} {v v' : Value} {V : List Vi} {r : Vi} {o : Obj} (h : BfI w W v V) (ho : W'.ownsRow w.heap.size 143 128 v' (V ++ [r]).length ((V ++ [r]).flatMap viV)) (hb : Below w.heap.size (W.alloc o) W') : BfI w W' v' (V ++ [r]) := ⟨ho, (h.b.alloc h.b.size o).trans hb⟩
theorem BfI.new (w : World) : BfI w (w.alloc (.cells #[] 143)) (.slice (some ⟨w.heap.size, 0, none⟩) 0 0) [] := ⟨own_nilA w _ _ _ (Nat.le_refl _), below_one _ _⟩
/-- The visits of what is known. -/
def visK (c : Nat) (K : List Kn) : List Vi := K.map (fun k => visP k.s.data.toList c k.L)
/-- One against those before. -/
def anyC (v : Vi) (V : List Vi) : Bool := V.any (fun o => clashV v o)
theorem anyC_take {v : Vi} {V : List Vi} {j : Nat} {o : Vi} (h : V[j]? = some o) : anyC v (V.take (j + 1)) = (anyC v (V.take j) || clashV v o) := by
  unfold anyC
  rw [List.take_add_one, h]
  simp
theorem anyC_le {v : Vi} {V : List Vi} {j : Nat} (h : anyC v (V.take j) = true) : anyC v V = true := by
  unfold anyC at *
  rw [List.any_eq_true] at *
  obtain ⟨x, hx, e⟩ := h
  exact ⟨x, List.mem_of_mem_take hx, e⟩
theorem race_new (c : Nat) (K : List Kn) (i : Nat) (k : Kn) (hk : K[i]? = some k) : raceTo c (K.map kp) (i + 1) = (raceTo c (K.map kp) i || ((k.hd && clashV (visP k.s.data.toList c k.L) (visP k.s.data.toList c k.L)) || anyC (visP k.s.data.toList c k.L) (visK c (K.take i)))) := by
  rw [raceTo_succ (k := kp k) (by rw [List.getElem?_map, hk]; rfl)]
  congr 1
  unfold raceNew anyC visK
  rw [← List.map_take, List.any_map, List.any_map]
  rfl
theorem visK_take (c : Nat) (K : List Kn) (i : Nat) (k : Kn) (hk : K[i]? = some k) : visK c (K.take (i + 1)) = visK c (K.take i) ++ [visP k.s.data.toList c k.L] := by
  unfold visK
  rw [List.take_add_one, hk]
  simp
set_option maxRecDepth 100000 in
theorem run_sliceV (v : Vi) (w : World) : (Instr.buildSlice 140 1 #[(0, .agg (viA v))]).run Try.prog w = .ok (.slice (some ⟨w.heap.size, 0, none⟩) 1 1) (w.alloc (.cells (viA v) 143)) := by kernel_rfl
theorem wpList_sliceV {ops : Array Oper} {rest : List Oper} {o : Oper} {a : Act} {w : World} {Q : Exit → Act → World → Prop} (hg : o.guard = none) (x : Operand) (ho : o.op = .buildSlice 140 1 #[(0, x)]) (v : Vi) (hx : a.eval x = .agg (viA v))
    (h : wpList Try.prog ops Q rest (a.put o.dst (.slice (some ⟨w.heap.size, 0, none⟩) 1 1)) (w.alloc (.cells (viA v) 143))) : wpList Try.prog ops Q (o :: rest) a w := by
  refine wpList_runTo' hg _ _ ?_ h
  unfold execOp
  simp only [ho, Sem.run_bind, Sem.run_pure, List.map_toArray, List.map_cons, List.map_nil, hx, run_sliceV, Result.andThen_ok]
theorem Try.sVi : (Try.prog.info? 143).map (·.size) = some 128 := by kernel_rfl
theorem wpList_load_rowG {ops : Array Oper} {rest : List Oper} {o : Oper} {a : Act} {w : World} {Q : Exit → Act → World → Prop} (hw : Region.wanted o (yielded ops a.tmps) = true) (ty : TypeId) (x : Operand) (ho : o.op = .load ty x)
    (g : Nat) (hx : a.eval x = .pointer (some ⟨g, 0, none⟩)) (t : TypeId) (cs : Array Value) (fr : Nat × Nat) (hg : w.heap[g]? = some (.cells cs t fr)) {fs : Array Field}
    (hu : Try.prog.underlying ty = some (.struct fs)) (hi : (Try.prog.info? ty).map (·.size) = some cs.size)
    (h : wpList Try.prog ops Q rest (a.put o.dst (.agg cs)) w) : wpList Try.prog ops Q (o :: rest) a w :=
  wpList_step fun K hK => by simp only [hw, if_true]; exact wp_load_row ty x ho g hx t cs fr _ hg hu rfl hi (hK _ _ h)
set_option maxRecDepth 100000 in
theorem raceAt_any (w : World) (aao : Option Addr) (ac : Nat) (K : List Kn) (c : Nat) (hc : c < 4) (hK : KnAll w (.slice aao K.length ac) K) :
    Calls Try.prog 56 #[.slice aao K.length ac, .int .i64 c] w fun e w' => e = .returned (.bool (raceP c (K.map kp))) ∧ Below w.heap.size w w' := by
  have HK := hide hK
  have hl8 := hK.len
  clear hK
  have AC := hide (fun v o W => vclash_any v o W)
  have HB0 := hide (BfI.new w)
  obtain ⟨i0, hj0, hz0, hz1, hz2⟩ := info_parts Try.infoVi
  have HRP : Hid (∀ n, n ≤ K.length → raceTo c (K.map kp) n = true → raceP c (K.map kp) = true) := hide (fun n hn h => raceTo_le h (by rw [List.length_map]; exact hn))
  have HRN : Hid (raceTo c (K.map kp) K.length = raceP c (K.map kp)) := hide (by unfold raceP; rw [List.length_map])
  generalize raceP c (K.map kp) = RP at *
  go_enter Try.func56, Try.ntmps56
  go_wp2
  generalize w.alloc (.cells #[] 143) = W at *
  go_loopw [5, 14] (fun a d wr => ∃ (i : Nat) (V : List Vi), i ≤ K.length ∧ d = .int .i64 i ∧ V = visK c (K.take i) ∧ BfI w wr a V ∧ raceTo c (K.map kp) i = false) (fun _ d _ => K.length - (intOf d).toNat)
  case atStart => exact ⟨0, [], by omega, rfl, rfl, HB0.out, rfl⟩
  case round =>
    clear HB0
    obtain ⟨i, V, hi, rfl, hV, hbf, hrt⟩ := hrel
    have HB := hide hbf
    have HV := hide hV
    have HRT := hide hrt
    clear hbf hV hrt
    obtain ⟨ao, cc, hv⟩ := own_v HB.out.own
    subst hv
    by_cases hlt : i < K.length
    · obtain ⟨k, hki⟩ : ∃ k, K[i]? = some k := ⟨K[i], List.getElem?_eq_getElem hlt⟩
      have HKn := hide (HK.out.each k (List.mem_of_getElem? hki))
      obtain ⟨g0, cap0, hv0, _, hg0, _, _, hr0⟩ := own_el knV_len (own_belowZ HK.out.own HB.out.b) hki
      cases hv0
      obtain ⟨kao, kc, hkv⟩ := own_v HKn.out.own
      have HR0 : Hid (wr.rangeAt g0 (i * 5) #[.bool k.hd, .bool k.hd, .string k.s, .slice (some ⟨k.lg, 0, none⟩) k.s.size k.s.size, .slice kao k.L.length kc].toList) := hide (by unfold knV at hr0; rw [hkv] at hr0; exact hr0)
      have AV := hide (fun W hin => visitsTo_any W k kao kc c hc hkv hin)
      have hi0 : (0 : Int) ≤ (i : Int) := by omega
      have hVl : V.length ≤ 8 := by rw [HV.out]; simp [visK]; omega
      have HRNW := hide (race_new c K i k hki)
      have HVT := hide (visK_take c K i k hki)
      rw [HRT.out, ← HV.out] at HRNW
      rw [← HV.out] at HVT
      clear hki hr0 hkv HV HRT
      generalize visP k.s.data.toList c k.L = v at *
      have hsz := HB.out.b.size
      have hdc : k.hd = false ∨ k.hd = true := by cases k.hd <;> simp
      rcases hdc with hhd' | hhd'
      · have HHD := hide hhd'
        clear hhd'
        go_wp2_with (first | (refine wpList_store_row rfl 143 _ _ rfl w2.heap.size (viA v) rfl rfl 143 (viA noVi) ?_ (Try.iVi _) (by rw [viA_size, viA_size]) (viA_one _) ?_; (exact (Row.new w2 (viA noVi) 143).raw); rw [World.setRow_alloc_new]; have HB3 := hide (HB2.out.below (below_one w2 (.cells (viA v) 143))); have HKR3 := hide (HKR2.out.alloc (.cells (viA v) 143)); have HVR3 := hide (Row.new w2 (viA v) 143); have hz3' : w2.heap.size < (w2.alloc (.cells (viA v) 143)).heap.size := (Row.new w2 (viA v) 143).lt; generalize w2.alloc (.cells (viA v) 143) = w3 at *; have y0 : w3.cell? ⟨wr.heap.size, 0, none⟩ = some (.bool false) := (HHD.out ▸ HKR3.out.cell 0 (v := .bool k.hd) rfl)) | (refine wpList_allocV rfl rfl ?_) | (go_at_call 72; refine (AV.out _ (HKn.out.below HB1.out.b)).mono ?_; rintro e w2 ⟨rfl, hb2⟩; have HB2 := hide (HB1.out.below hb2); have HKR2 := hide (HKR1.out.below hb2); have hz2' := hb2.size; clear hb2) | (refine wpList_load_row rfl 111 _ rfl _ rfl 111 #[.bool k.hd, .bool k.hd, .string k.s, .slice (some ⟨k.lg, 0, none⟩) k.s.size k.s.size, .slice kao k.L.length kc] (0, 0) _ ?_ Try.underlying111 rfl Try.iKnown ?_; (exact HKR1.out.raw)) | (refine wpList_store_row rfl 111 _ _ rfl wr.heap.size #[.bool k.hd, .bool k.hd, .string k.s, .slice (some ⟨k.lg, 0, none⟩) k.s.size k.s.size, .slice kao k.L.length kc] rfl rfl 111 #[.bool false, .bool false, .string ⟨#[]⟩, .slice none 0 0, .slice none 0 0] ?_ Try.iKnown rfl (by simp [Value.oneCell']) ?_; (exact (Row.new wr #[.bool false, .bool false, .string ⟨#[]⟩, .slice none 0 0, .slice none 0 0] 111).raw); rw [World.setRow_alloc_new]; have HB1 := hide (HB.out.below (below_one wr (.cells #[.bool k.hd, .bool k.hd, .string k.s, .slice (some ⟨k.lg, 0, none⟩) k.s.size k.s.size, .slice kao k.L.length kc] 111))); have HKR1 := hide (Row.new wr #[.bool k.hd, .bool k.hd, .string k.s, .slice (some ⟨k.lg, 0, none⟩) k.s.size k.s.size, .slice kao k.L.length kc] 111); have hz1' : wr.heap.size < (wr.alloc (.cells #[.bool k.hd, .bool k.hd, .string k.s, .slice (some ⟨k.lg, 0, none⟩) k.s.size k.s.size, .slice kao k.L.length kc] 111)).heap.size := (Row.new wr #[.bool k.hd, .bool k.hd, .string k.s, .slice (some ⟨k.lg, 0, none⟩) k.s.size k.s.size, .slice kao k.L.length kc] 111).lt; generalize wr.alloc (.cells #[.bool k.hd, .bool k.hd, .string k.s, .slice (some ⟨k.lg, 0, none⟩) k.s.size k.s.size, .slice kao k.L.length kc] 111) = w1 at *; skip) | (refine wpList_load_mid rfl 111 _ rfl _ _ rfl #[.bool k.hd, .bool k.hd, .string k.s, .slice (some ⟨k.lg, 0, none⟩) k.s.size k.s.size, .slice kao k.L.length kc].toList _ ?_ Try.underlying111 rfl Try.iKnown ?_; (exact HR0.out)))
        generalize w2.heap.size = gv at *
        go_loopw [30] (fun d wr => ∃ j : Nat, j ≤ V.length ∧ d = .int .i64 j ∧ BfI w wr (.slice ao V.length cc) V ∧ Row wr gv (viA v) 143 ∧ anyC v (V.take j) = false) (fun d _ => V.length - (intOf d).toNat)
        case atStart => exact ⟨0, by omega, rfl, HB3.out, HVR3.out, rfl⟩
        case round =>
          obtain ⟨j, hj, rfl, hbi, hvr, han⟩ := hrel
          have HBi := hide hbi
          have HVRi := hide hvr
          have HAN := hide han
          clear hbi hvr han
          by_cases hjt : j < V.length
          · obtain ⟨o, ho⟩ : ∃ o, V[j]? = some o := ⟨V[j], List.getElem?_eq_getElem hjt⟩
            obtain ⟨g2, cap2, hv2, _, hg2, _, _, hr2⟩ := own_el viV_len HBi.out.own ho
            cases hv2
            have HO1 := hide hr2
            have HAT := hide (anyC_take (v := v) ho)
            have hj0' : (0 : Int) ≤ (j : Int) := by omega
            obtain ⟨co, hco⟩ : ∃ co, clashV v o = co := ⟨_, rfl⟩
            have ACO := hide (fun W => AC.out v o W)
            rw [hco] at ACO HAT
            clear hr2 ho hco
            cases co
            · go_wp2_with (first | (go_at_call 73; refine (ACO.out _).mono ?_; rintro e w6 ⟨rfl, hb6⟩; have HB6 := hide (HB5.out.below hb6); have HVR6 := hide (HVR5.out.below hb6); clear hb6) | (refine wpList_load_row rfl 143 _ rfl _ rfl 143 (viA v) (0, 0) _ ?_ Try.underlying143 rfl (Try.iVi _) ?_; (exact HVR5.out.raw)) | (refine wpList_load_row rfl 143 _ rfl _ rfl 143 (viA o) (0, 0) _ ?_ Try.underlying143 rfl (Try.iVi _) ?_; (exact HOR5.out.raw)) | (refine wpList_store_row rfl 143 _ _ rfl wr.heap.size (viA o) rfl rfl 143 (viA noVi) ?_ (Try.iVi _) (by rw [viA_size, viA_size]) (viA_one _) ?_; (exact (Row.new wr (viA noVi) 143).raw); rw [World.setRow_alloc_new]; have HB5 := hide (HBi.out.below (below_one wr (.cells (viA o) 143))); have HVR5 := hide (HVRi.out.alloc (.cells (viA o) 143)); have HOR5 := hide (Row.new wr (viA o) 143); generalize wr.alloc (.cells (viA o) 143) = w5 at *) | (refine wpList_allocV rfl rfl ?_) | (refine wpList_load_mid rfl 143 _ rfl _ _ rfl (viV o) _ ?_ Try.underlying143 rfl (by rw [viV_len]; exact Try.sVi) ?_; (exact HO1.out); rw [viV_arr]))
              go_round
              case measure => simp [intOf]; omega
              case rel => exact ⟨j + 1, by omega, by go_num, HB6.out, HVR6.out, by rw [HAT.out, HAN.out]; rfl⟩
            · go_wp2_with (first | (go_at_call 73; refine (ACO.out _).mono ?_; rintro e w6 ⟨rfl, hb6⟩; have HB6 := hide (HB5.out.below hb6); have HVR6 := hide (HVR5.out.below hb6); clear hb6) | (refine wpList_load_row rfl 143 _ rfl _ rfl 143 (viA v) (0, 0) _ ?_ Try.underlying143 rfl (Try.iVi _) ?_; (exact HVR5.out.raw)) | (refine wpList_load_row rfl 143 _ rfl _ rfl 143 (viA o) (0, 0) _ ?_ Try.underlying143 rfl (Try.iVi _) ?_; (exact HOR5.out.raw)) | (refine wpList_store_row rfl 143 _ _ rfl wr.heap.size (viA o) rfl rfl 143 (viA noVi) ?_ (Try.iVi _) (by rw [viA_size, viA_size]) (viA_one _) ?_; (exact (Row.new wr (viA noVi) 143).raw); rw [World.setRow_alloc_new]; have HB5 := hide (HBi.out.below (below_one wr (.cells (viA o) 143))); have HVR5 := hide (HVRi.out.alloc (.cells (viA o) 143)); have HOR5 := hide (Row.new wr (viA o) 143); generalize wr.alloc (.cells (viA o) 143) = w5 at *) | (refine wpList_allocV rfl rfl ?_) | (refine wpList_load_mid rfl 143 _ rfl _ _ rfl (viV o) _ ?_ Try.underlying143 rfl (by rw [viV_len]; exact Try.sVi) ?_; (exact HO1.out); rw [viV_arr]))
              go_ret
              exact ⟨ret_bool (by rw [HRP.out (i + 1) (by omega) (by rw [HRNW.out, anyC_le (j := j + 1) (by rw [HAT.out]; simp)]; simp)]), HB6.out.b⟩
          · have e : j = V.length := by omega
            subst e
            rw [List.take_length] at HAN
            go_wp2_with (first | (at_builtin; refine wpList_push (f := viV) viV_len rfl _ _ 140 rfl w.heap.size 143 i0 _ 128 Try.underlying140 hj0 hz0 hz1 hz2 (viA_size _) (by decide) _ V v rfl ⟨_, 0, none⟩ rfl ?_ ?_ ?_ ?_ ?_ ?_ ?_; (exact HBi.out.own.alloc _); (rw [← viV_arr]; exact newsL _ _ _); (exact viV_one v); (unfold maxLen; omega); (omega); (have := HBi.out.b.size; simp; omega); intro ao' cc' w9 hown' hbel' hsame' hat'; have HO9 := hide hown'; have HBL9 := hide hbel'; clear hown' hbel' hsame' hat') | (refine wpList_sliceV rfl _ rfl v rfl ?_) | (refine wpList_load_row rfl 143 _ rfl _ rfl 143 (viA v) (0, 0) _ ?_ Try.underlying143 rfl (Try.iVi _) ?_; (exact HVRi.out.raw)))
            go_round
            case measure => simp [intOf]; omega
            case rel => exact ⟨i + 1, _, by omega, by go_num, HVT.out.symm, HBi.out.push HO9.out HBL9.out, by rw [HRNW.out, HAN.out, HHD.out]; simp⟩
      · have HHD := hide hhd'
        clear hhd'
        obtain ⟨cv, hcv⟩ : ∃ cv, clashV v v = cv := ⟨_, rfl⟩
        have HCV := hide hcv
        have AC0 := hide (fun W => AC.out v v W)
        rw [hcv] at AC0
        clear hcv
        cases cv
        · go_wp2_with (first | (go_at_call 73; refine (AC0.out _).mono ?_; rintro e w4 ⟨rfl, hb4⟩; have HB4 := hide (HB3.out.below hb4); have HVR4 := hide (HVR3.out.below hb4); clear hb4) | (refine wpList_load_rowG (by rfl) 143 _ rfl _ rfl 143 (viA v) (0, 0) ?_ Try.underlying143 (Try.iVi _) ?_; (exact HVR3.out.raw)) | (refine wpList_store_row rfl 143 _ _ rfl w2.heap.size (viA v) rfl rfl 143 (viA noVi) ?_ (Try.iVi _) (by rw [viA_size, viA_size]) (viA_one _) ?_; (exact (Row.new w2 (viA noVi) 143).raw); rw [World.setRow_alloc_new]; have HB3 := hide (HB2.out.below (below_one w2 (.cells (viA v) 143))); have HKR3 := hide (HKR2.out.alloc (.cells (viA v) 143)); have HVR3 := hide (Row.new w2 (viA v) 143); have hz3' : w2.heap.size < (w2.alloc (.cells (viA v) 143)).heap.size := (Row.new w2 (viA v) 143).lt; generalize w2.alloc (.cells (viA v) 143) = w3 at *; have y0 : w3.cell? ⟨wr.heap.size, 0, none⟩ = some (.bool true) := (HHD.out ▸ HKR3.out.cell 0 (v := .bool k.hd) rfl)) | (refine wpList_allocV rfl rfl ?_) | (go_at_call 72; refine (AV.out _ (HKn.out.below HB1.out.b)).mono ?_; rintro e w2 ⟨rfl, hb2⟩; have HB2 := hide (HB1.out.below hb2); have HKR2 := hide (HKR1.out.below hb2); have hz2' := hb2.size; clear hb2) | (refine wpList_load_row rfl 111 _ rfl _ rfl 111 #[.bool k.hd, .bool k.hd, .string k.s, .slice (some ⟨k.lg, 0, none⟩) k.s.size k.s.size, .slice kao k.L.length kc] (0, 0) _ ?_ Try.underlying111 rfl Try.iKnown ?_; (exact HKR1.out.raw)) | (refine wpList_store_row rfl 111 _ _ rfl wr.heap.size #[.bool k.hd, .bool k.hd, .string k.s, .slice (some ⟨k.lg, 0, none⟩) k.s.size k.s.size, .slice kao k.L.length kc] rfl rfl 111 #[.bool false, .bool false, .string ⟨#[]⟩, .slice none 0 0, .slice none 0 0] ?_ Try.iKnown rfl (by simp [Value.oneCell']) ?_; (exact (Row.new wr #[.bool false, .bool false, .string ⟨#[]⟩, .slice none 0 0, .slice none 0 0] 111).raw); rw [World.setRow_alloc_new]; have HB1 := hide (HB.out.below (below_one wr (.cells #[.bool k.hd, .bool k.hd, .string k.s, .slice (some ⟨k.lg, 0, none⟩) k.s.size k.s.size, .slice kao k.L.length kc] 111))); have HKR1 := hide (Row.new wr #[.bool k.hd, .bool k.hd, .string k.s, .slice (some ⟨k.lg, 0, none⟩) k.s.size k.s.size, .slice kao k.L.length kc] 111); have hz1' : wr.heap.size < (wr.alloc (.cells #[.bool k.hd, .bool k.hd, .string k.s, .slice (some ⟨k.lg, 0, none⟩) k.s.size k.s.size, .slice kao k.L.length kc] 111)).heap.size := (Row.new wr #[.bool k.hd, .bool k.hd, .string k.s, .slice (some ⟨k.lg, 0, none⟩) k.s.size k.s.size, .slice kao k.L.length kc] 111).lt; generalize wr.alloc (.cells #[.bool k.hd, .bool k.hd, .string k.s, .slice (some ⟨k.lg, 0, none⟩) k.s.size k.s.size, .slice kao k.L.length kc] 111) = w1 at *; skip) | (refine wpList_load_mid rfl 111 _ rfl _ _ rfl #[.bool k.hd, .bool k.hd, .string k.s, .slice (some ⟨k.lg, 0, none⟩) k.s.size k.s.size, .slice kao k.L.length kc].toList _ ?_ Try.underlying111 rfl Try.iKnown ?_; (exact HR0.out)))
          generalize w2.heap.size = gv at *
          go_loopw [30] (fun d wr => ∃ j : Nat, j ≤ V.length ∧ d = .int .i64 j ∧ BfI w wr (.slice ao V.length cc) V ∧ Row wr gv (viA v) 143 ∧ anyC v (V.take j) = false) (fun d _ => V.length - (intOf d).toNat)
          case atStart => exact ⟨0, by omega, rfl, HB4.out, HVR4.out, rfl⟩
          case round =>
            obtain ⟨j, hj, rfl, hbi, hvr, han⟩ := hrel
            have HBi := hide hbi
            have HVRi := hide hvr
            have HAN := hide han
            clear hbi hvr han
            by_cases hjt : j < V.length
            · obtain ⟨o, ho⟩ : ∃ o, V[j]? = some o := ⟨V[j], List.getElem?_eq_getElem hjt⟩
              obtain ⟨g2, cap2, hv2, _, hg2, _, _, hr2⟩ := own_el viV_len HBi.out.own ho
              cases hv2
              have HO1 := hide hr2
              have HAT := hide (anyC_take (v := v) ho)
              have hj0' : (0 : Int) ≤ (j : Int) := by omega
              obtain ⟨co, hco⟩ : ∃ co, clashV v o = co := ⟨_, rfl⟩
              have ACO := hide (fun W => AC.out v o W)
              rw [hco] at ACO HAT
              clear hr2 ho hco
              cases co
              · go_wp2_with (first | (go_at_call 73; refine (ACO.out _).mono ?_; rintro e w6 ⟨rfl, hb6⟩; have HB6 := hide (HB5.out.below hb6); have HVR6 := hide (HVR5.out.below hb6); clear hb6) | (refine wpList_load_row rfl 143 _ rfl _ rfl 143 (viA v) (0, 0) _ ?_ Try.underlying143 rfl (Try.iVi _) ?_; (exact HVR5.out.raw)) | (refine wpList_load_row rfl 143 _ rfl _ rfl 143 (viA o) (0, 0) _ ?_ Try.underlying143 rfl (Try.iVi _) ?_; (exact HOR5.out.raw)) | (refine wpList_store_row rfl 143 _ _ rfl wr.heap.size (viA o) rfl rfl 143 (viA noVi) ?_ (Try.iVi _) (by rw [viA_size, viA_size]) (viA_one _) ?_; (exact (Row.new wr (viA noVi) 143).raw); rw [World.setRow_alloc_new]; have HB5 := hide (HBi.out.below (below_one wr (.cells (viA o) 143))); have HVR5 := hide (HVRi.out.alloc (.cells (viA o) 143)); have HOR5 := hide (Row.new wr (viA o) 143); generalize wr.alloc (.cells (viA o) 143) = w5 at *) | (refine wpList_allocV rfl rfl ?_) | (refine wpList_load_mid rfl 143 _ rfl _ _ rfl (viV o) _ ?_ Try.underlying143 rfl (by rw [viV_len]; exact Try.sVi) ?_; (exact HO1.out); rw [viV_arr]))
                go_round
                case measure => simp [intOf]; omega
                case rel => exact ⟨j + 1, by omega, by go_num, HB6.out, HVR6.out, by rw [HAT.out, HAN.out]; rfl⟩
              · go_wp2_with (first | (go_at_call 73; refine (ACO.out _).mono ?_; rintro e w6 ⟨rfl, hb6⟩; have HB6 := hide (HB5.out.below hb6); have HVR6 := hide (HVR5.out.below hb6); clear hb6) | (refine wpList_load_row rfl 143 _ rfl _ rfl 143 (viA v) (0, 0) _ ?_ Try.underlying143 rfl (Try.iVi _) ?_; (exact HVR5.out.raw)) | (refine wpList_load_row rfl 143 _ rfl _ rfl 143 (viA o) (0, 0) _ ?_ Try.underlying143 rfl (Try.iVi _) ?_; (exact HOR5.out.raw)) | (refine wpList_store_row rfl 143 _ _ rfl wr.heap.size (viA o) rfl rfl 143 (viA noVi) ?_ (Try.iVi _) (by rw [viA_size, viA_size]) (viA_one _) ?_; (exact (Row.new wr (viA noVi) 143).raw); rw [World.setRow_alloc_new]; have HB5 := hide (HBi.out.below (below_one wr (.cells (viA o) 143))); have HVR5 := hide (HVRi.out.alloc (.cells (viA o) 143)); have HOR5 := hide (Row.new wr (viA o) 143); generalize wr.alloc (.cells (viA o) 143) = w5 at *) | (refine wpList_allocV rfl rfl ?_) | (refine wpList_load_mid rfl 143 _ rfl _ _ rfl (viV o) _ ?_ Try.underlying143 rfl (by rw [viV_len]; exact Try.sVi) ?_; (exact HO1.out); rw [viV_arr]))
                go_ret
                exact ⟨ret_bool (by rw [HRP.out (i + 1) (by omega) (by rw [HRNW.out, anyC_le (j := j + 1) (by rw [HAT.out]; simp)]; simp)]), HB6.out.b⟩
            · have e : j = V.length := by omega
              subst e
              rw [List.take_length] at HAN
              go_wp2_with (first | (at_builtin; refine wpList_push (f := viV) viV_len rfl _ _ 140 rfl w.heap.size 143 i0 _ 128 Try.underlying140 hj0 hz0 hz1 hz2 (viA_size _) (by decide) _ V v rfl ⟨_, 0, none⟩ rfl ?_ ?_ ?_ ?_ ?_ ?_ ?_; (exact HBi.out.own.alloc _); (rw [← viV_arr]; exact newsL _ _ _); (exact viV_one v); (unfold maxLen; omega); (omega); (have := HBi.out.b.size; simp; omega); intro ao' cc' w9 hown' hbel' hsame' hat'; have HO9 := hide hown'; have HBL9 := hide hbel'; clear hown' hbel' hsame' hat') | (refine wpList_sliceV rfl _ rfl v rfl ?_) | (refine wpList_load_row rfl 143 _ rfl _ rfl 143 (viA v) (0, 0) _ ?_ Try.underlying143 rfl (Try.iVi _) ?_; (exact HVRi.out.raw)))
              go_round
              case measure => simp [intOf]; omega
              case rel => exact ⟨i + 1, _, by omega, by go_num, HVT.out.symm, HBi.out.push HO9.out HBL9.out, by rw [HRNW.out, HAN.out, HCV.out]; simp⟩
        · go_wp2_with (first | (go_at_call 73; refine (AC0.out _).mono ?_; rintro e w4 ⟨rfl, hb4⟩; have HB4 := hide (HB3.out.below hb4); have HVR4 := hide (HVR3.out.below hb4); clear hb4) | (refine wpList_load_rowG (by rfl) 143 _ rfl _ rfl 143 (viA v) (0, 0) ?_ Try.underlying143 (Try.iVi _) ?_; (exact HVR3.out.raw)) | (refine wpList_store_row rfl 143 _ _ rfl w2.heap.size (viA v) rfl rfl 143 (viA noVi) ?_ (Try.iVi _) (by rw [viA_size, viA_size]) (viA_one _) ?_; (exact (Row.new w2 (viA noVi) 143).raw); rw [World.setRow_alloc_new]; have HB3 := hide (HB2.out.below (below_one w2 (.cells (viA v) 143))); have HKR3 := hide (HKR2.out.alloc (.cells (viA v) 143)); have HVR3 := hide (Row.new w2 (viA v) 143); have hz3' : w2.heap.size < (w2.alloc (.cells (viA v) 143)).heap.size := (Row.new w2 (viA v) 143).lt; generalize w2.alloc (.cells (viA v) 143) = w3 at *; have y0 : w3.cell? ⟨wr.heap.size, 0, none⟩ = some (.bool true) := (HHD.out ▸ HKR3.out.cell 0 (v := .bool k.hd) rfl)) | (refine wpList_allocV rfl rfl ?_) | (go_at_call 72; refine (AV.out _ (HKn.out.below HB1.out.b)).mono ?_; rintro e w2 ⟨rfl, hb2⟩; have HB2 := hide (HB1.out.below hb2); have HKR2 := hide (HKR1.out.below hb2); have hz2' := hb2.size; clear hb2) | (refine wpList_load_row rfl 111 _ rfl _ rfl 111 #[.bool k.hd, .bool k.hd, .string k.s, .slice (some ⟨k.lg, 0, none⟩) k.s.size k.s.size, .slice kao k.L.length kc] (0, 0) _ ?_ Try.underlying111 rfl Try.iKnown ?_; (exact HKR1.out.raw)) | (refine wpList_store_row rfl 111 _ _ rfl wr.heap.size #[.bool k.hd, .bool k.hd, .string k.s, .slice (some ⟨k.lg, 0, none⟩) k.s.size k.s.size, .slice kao k.L.length kc] rfl rfl 111 #[.bool false, .bool false, .string ⟨#[]⟩, .slice none 0 0, .slice none 0 0] ?_ Try.iKnown rfl (by simp [Value.oneCell']) ?_; (exact (Row.new wr #[.bool false, .bool false, .string ⟨#[]⟩, .slice none 0 0, .slice none 0 0] 111).raw); rw [World.setRow_alloc_new]; have HB1 := hide (HB.out.below (below_one wr (.cells #[.bool k.hd, .bool k.hd, .string k.s, .slice (some ⟨k.lg, 0, none⟩) k.s.size k.s.size, .slice kao k.L.length kc] 111))); have HKR1 := hide (Row.new wr #[.bool k.hd, .bool k.hd, .string k.s, .slice (some ⟨k.lg, 0, none⟩) k.s.size k.s.size, .slice kao k.L.length kc] 111); have hz1' : wr.heap.size < (wr.alloc (.cells #[.bool k.hd, .bool k.hd, .string k.s, .slice (some ⟨k.lg, 0, none⟩) k.s.size k.s.size, .slice kao k.L.length kc] 111)).heap.size := (Row.new wr #[.bool k.hd, .bool k.hd, .string k.s, .slice (some ⟨k.lg, 0, none⟩) k.s.size k.s.size, .slice kao k.L.length kc] 111).lt; generalize wr.alloc (.cells #[.bool k.hd, .bool k.hd, .string k.s, .slice (some ⟨k.lg, 0, none⟩) k.s.size k.s.size, .slice kao k.L.length kc] 111) = w1 at *; skip) | (refine wpList_load_mid rfl 111 _ rfl _ _ rfl #[.bool k.hd, .bool k.hd, .string k.s, .slice (some ⟨k.lg, 0, none⟩) k.s.size k.s.size, .slice kao k.L.length kc].toList _ ?_ Try.underlying111 rfl Try.iKnown ?_; (exact HR0.out)))
          go_ret
          exact ⟨ret_bool (by rw [HRP.out (i + 1) (by omega) (by rw [HRNW.out, HHD.out, HCV.out]; simp)]), HB4.out.b⟩
    · have e : i = K.length := by omega
      subst e
      rw [HRN.out] at HRT
      have hRP := HRT.out
      subst hRP
      go_wp2
      go_ret
      exact ⟨rfl, HB.out.b⟩
end Go.Proofs.Ytecmfdkhcffpmab
