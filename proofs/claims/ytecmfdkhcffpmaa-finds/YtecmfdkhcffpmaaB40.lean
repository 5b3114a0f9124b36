/- FlatK, DocD. -/
import Derived.Test.YtecmfdkhcffpmaaB39
import Derived.Test.YtecmfdkhcffpmaaB33
import Derived.Deep.LoopGhost
/- Own slices of structs, told by a list. -/
namespace Go.Proofs.Ytecmfdkhcffpmaa
open Go.RowKit
set_option linter.unusedSimpArgs false
set_option linter.unusedVariables false
set_option maxHeartbeats 8000000
open Mc
section
variable {α : Type} {f : α → List Value} {n : Nat}
theorem flat_len (hf : ∀ a, (f a).length = n) (L : List α) : (L.flatMap f).length = L.length * n := by
  induction L with
  | nil => simp
  | cons a r ih => rw [List.flatMap_cons, List.length_append, hf, ih, List.length_cons, Nat.succ_mul]; omega
theorem flat_snoc (L : List α) (r : α) : (L ++ [r]).flatMap f = L.flatMap f ++ f r := by simp
theorem flat_at (hf : ∀ a, (f a).length = n) (L : List α) (i j : Nat) (r : α) (h : L[i]? = some r) (hj : j < n) : (L.flatMap f)[i * n + j]? = (f r)[j]? := by
  induction L generalizing i with
  | nil => simp at h
  | cons a l ih =>
    rw [List.flatMap_cons]
    cases i with
    | zero =>
      simp at h; subst h
      rw [List.getElem?_append_left (by rw [hf]; omega), Nat.zero_mul, Nat.zero_add]
    | succ i =>
      rw [List.getElem?_append_right (by rw [hf, Nat.succ_mul]; omega), hf, show (i + 1) * n + j - n = i * n + j by rw [Nat.succ_mul]; omega]
      exact ih i (by simpa using h)
/-- An element of an own slice, in memory. -/
theorem own_el {w : World} {base : Nat} {t : TypeId} {v : Value} {L : List α} (hf : ∀ a, (f a).length = n) (h : w.ownsRow base t n v L.length (L.flatMap f)) {i : Nat} {r : α} (hr : L[i]? = some r) : ∃ g cap, v = .slice (some ⟨g, 0, none⟩) L.length cap ∧ base ≤ g ∧ g < w.heap.size ∧ L.length ≤ cap ∧ cap ≤ maxLen ∧ w.rangeAt g (i * n) (f r) := by
  have hi := (List.getElem?_eq_some_iff.1 hr).1
  rcases h.2 with ⟨rfl, h0⟩ | ⟨g, cap, cur, rfl, hb, hg, h1, h2, h3, h4⟩
  · omega
  · refine ⟨g, cap, rfl, hb, row_lt hg, h1, h2, fun j u hj => ?_⟩
    have hjn : j < n := by have := (List.getElem?_eq_some_iff.1 hj).1; rw [hf] at this; exact this
    refine row_cell hg ?_
    have := flat_at hf L i j r hr hjn
    have hle : i * n + n ≤ L.length * n := by
      have := Nat.mul_le_mul_right n (show i + 1 ≤ L.length by omega)
      rw [Nat.succ_mul] at this; exact this
    rw [← h4, List.getElem?_take, if_pos (by omega), Array.getElem?_toList, hj] at this
    exact this
/-- One more element. -/
theorem wpList_push {ops : Array Oper} {rest : List Oper} {o : Oper} {a : Act} {w : World} {Q : Exit → Act → World → Prop} (hf : ∀ a, (f a).length = n) (hgd : o.guard = none) (s x : Operand) (t : TypeId)
    (ho : o.op = .call { callee := .builtin .append, args := #[s, x], argTypes := #[t, t] })
    (base : Nat) (e : TypeId) (i : TypeInfo) (z : Value) (bytes : Nat) (ht : Try.prog.underlying t = some (.slice e)) (hi : Try.prog.info? e = some i) (hz : i.zero = some z)
    (hsize : i.size = n) (hby : i.bytes = bytes) (hzs : z.cells.size = n) (hsz : 0 < n)
    (v : Value) (L : List α) (r : α) (hs : a.eval s = v)
    (ad : Addr) (hx : a.eval x = .slice (some ad) 1 1) (hown : w.ownsRow base e n v L.length (L.flatMap f)) (hnews : ∀ j u, (f r)[j]? = some u → w.cell? (ad.add j) = some u) (h1 : ∀ u ∈ f r, u.oneCell' = true)
    (h63 : L.length + 1 ≤ maxLen) (hbytes : (L.length + 1) * bytes ≤ 140737488355328) (hbase : base ≤ w.heap.size)
    (h : ∀ ao' cc' w', w'.ownsRow base e n (.slice ao' (L.length + 1) cc') (L ++ [r]).length ((L ++ [r]).flatMap f) → Below base w w' → (∀ j, j < w.heap.size → v.ownBlock ≠ some j → w'.heap[j]? = w.heap[j]?) → ((Value.slice ao' (L.length + 1) cc').ownBlock = v.ownBlock ∨ (Value.slice ao' (L.length + 1) cc').ownBlock = some w.heap.size) → wpList Try.prog ops Q rest (a.put o.dst (.slice ao' (L.length + 1) cc')) w') :
    wpList Try.prog ops Q (o :: rest) a w := by
  refine wpList_append_own_at w hgd s x t ho base e i z n bytes ht hi hz hsize hby hzs hsz v L.length (L.flatMap f) hs hown ad 1 1 (f r) hx (by rw [hf]; omega) hnews h1 h63 hbytes hbase ?_
  intro v' w' hown' hg hnil hat
  obtain ⟨ao', cc', hv'⟩ := own_v hown'
  subst hv'
  refine h ao' cc' w' ?_ ?_ ?_ hat
  · rw [flat_snoc, List.length_append]; exact hown'
  · refine (Below.refl base w).grown hg hbase (fun q hq => ?_)
    rcases hown.2 with ⟨e1, _⟩ | ⟨g, cap, cur, e1, hb, _⟩
    · rw [e1] at hq; cases hq
    · rw [e1] at hq; injection hq with hq; rw [← hq]; exact hb
  · exact fun j hj hne => hg.block j hj (fun e => hne e.symm)
end
/-- What is known of an item. -/
structure Kn where
  hd : Bool
  s : ByteArray
  lg : Nat
  v : Value
  L : List Rc
def knV (k : Kn) : List Value := [.bool k.hd, .bool k.hd, .string k.s, .slice (some ⟨k.lg, 0, none⟩) k.s.size k.s.size, k.v]
/-- What is known of an item, in memory. -/
structure KnIn (w : World) (k : Kn) : Prop where
  own : w.ownsRow 0 153 10 k.v k.L.length (rcsV k.L)
  fin : RFin k.hd k.s.data.toList k.L
  gb : GB k.s.data.toList
  short : k.s.size ≤ 300
theorem own_belowZ {w w' : World} {t : TypeId} {n m : Nat} {v : Value} {xs : List Value} (h : w.ownsRow 0 t n v m xs) (hb : Below w.heap.size w w') : w'.ownsRow 0 t n v m xs :=
  own_same h (fun g _ hl => hb.block g hl)
theorem KnIn.below {w w' : World} {k : Kn} (h : KnIn w k) (hb : Below w.heap.size w w') : KnIn w' k := ⟨own_belowZ h.own hb, h.fin, h.gb, h.short⟩
/-- All that is known, in memory. -/
structure KnAll (w : World) (v : Value) (K : List Kn) : Prop where
  own : w.ownsRow 0 150 5 v K.length (K.flatMap knV)
  each : ∀ k ∈ K, KnIn w k
  len : K.length ≤ 8
theorem KnAll.below {w w' : World} {v : Value} {K : List Kn} (h : KnAll w v K) (hb : Below w.heap.size w w') : KnAll w' v K := ⟨own_belowZ h.own hb, fun k hk => (h.each k hk).below hb, h.len⟩
theorem RFin.all {hd : Bool} {b : List UInt8} {L : List Rc} (h : RFin hd b L) (s : St3) : Rch hd b s ↔ ∃ r ∈ L, r.st = s := by
  obtain ⟨i, f, h1, h2⟩ := h
  exact h1.all h2 s
theorem RFin.ok {hd : Bool} {b : List UInt8} {L : List Rc} (h : RFin hd b L) (hg : GB b) {r : Rc} (hr : r ∈ L) : SOK b r.st := by
  obtain ⟨i, f, h1, h2⟩ := h
  exact h1.ok hg hr
theorem RFin.len {hd : Bool} {b : List UInt8} {L : List Rc} (h : RFin hd b L) (hg : GB b) : L.length ≤ (b.length + 1) * 128 := by
  obtain ⟨i, f, h1, h2⟩ := h
  exact h1.len hg
end Go.Proofs.Ytecmfdkhcffpmaa
/- Contracts of the document's states: States. -/
namespace Go.Proofs.Ytecmfdkhcffpmaa
open Go.RowKit
set_option linter.unusedSimpArgs false
set_option linter.unusedVariables false
set_option maxHeartbeats 8000000
open Mc

theorem Try.infoBs : (Try.prog.info? 125).map (fun i => (i.zero, i.size, i.bytes)) = some (some (.slice none 0 0), 1, 24) := by kernel_rfl
def gV (g : Nat) : List Value := [.slice (some ⟨g, 0, none⟩) 128 128]
theorem gV_len (g : Nat) : (gV g).length = 1 := rfl
theorem own_lt0' {w : World} {base : Nat} {t : TypeId} {n m : Nat} {v : Value} {xs : List Value} (h : w.ownsRow base t n v m xs) {j : Nat} (hj : v.ownBlock = some j) : base ≤ j ∧ j < w.heap.size := by
  rcases h.2 with ⟨rfl, _⟩ | ⟨g, cap, cur, rfl, hb, hg, _⟩
  · cases hj
  · injection hj with hj
    subst hj
    exact ⟨hb, row_lt hg⟩
theorem newsD2 (w : World) (o : Obj) (vs : List Value) (t : TypeId) : ∀ j u, vs[j]? = some u → ((w.alloc o).alloc (.cells vs.toArray t)).cell? ((⟨w.heap.size + 1, 0, none⟩ : Addr).add j) = some u := by
  intro j u hu
  have h := newsL (w.alloc o) vs t j u hu
  have e : (w.alloc o).heap.size = w.heap.size + 1 := by simp
  rw [e] at h
  exact h
/-- The rows while they are laid. -/
structure TbI (w W : World) (hd : Bool) (b : List UInt8) (v : Value) (G : List Nat) : Prop where
  own : W.ownsRow (w.heap.size + 1) 125 1 v G.length (G.flatMap gV)
  it : Row W w.heap.size #[.bool hd, .string (Wd.mkS b)] 31
  each : ∀ g ∈ G, Blk W g 128 (fun _ => .bool false) ∧ w.heap.size < g ∧ v.ownBlock ≠ some g
  nd : G.Nodup
  b : Below w.heap.size w W
theorem TbI.push {w W W' : World} {hd : Bool} {b : List UInt8} {v v' : Value} {G : List Nat} {o : Obj} (h : TbI w W hd b v G) (hbk : Blk (W.alloc o) W.heap.size 128 (fun _ => .bool false)) (o2 : Obj) (ho : W'.ownsRow (w.heap.size + 1) 125 1 v' (G ++ [W.heap.size]).length ((G ++ [W.heap.size]).flatMap gV)) (hb : Below (w.heap.size + 1) ((W.alloc o).alloc o2) W') (hs : ∀ j, j < ((W.alloc o).alloc o2).heap.size → v.ownBlock ≠ some j → W'.heap[j]? = ((W.alloc o).alloc o2).heap[j]?) (hat : v'.ownBlock = v.ownBlock ∨ v'.ownBlock = some ((W.alloc o).alloc o2).heap.size) : TbI w W' hd b v' (G ++ [W.heap.size]) := by
  have hlt := h.it.lt
  have key : ∀ g, Blk (W.alloc o) g 128 (fun _ => .bool false) → v.ownBlock ≠ some g → Blk W' g 128 (fun _ => .bool false) ∧ v'.ownBlock ≠ some g := by
    intro g hg hn
    have hl := hg.lt
    refine ⟨hg.same ?_, fun e => ?_⟩
    · rw [hs g (by simp at hl ⊢; omega) hn, heap_alloc_old _ _ hl]
    · rcases hat with a | a
      · rw [a] at e; exact hn e
      · rw [a] at e; injection e with e; simp at hl e; omega
  have hn : v.ownBlock ≠ some W.heap.size := fun e => by have := (own_lt0' h.own e).2; omega
  refine ⟨ho, ?_, fun g hg => ?_, ?_, ?_⟩
  · refine h.it.same ?_
    rw [hb.block _ (by omega), heap_alloc_old _ _ (by simp; omega), heap_alloc_old _ _ hlt]
  · rcases List.mem_append.1 hg with hg | hg
    · obtain ⟨a1, a2, a3⟩ := h.each g hg
      exact ⟨(key g (a1.alloc o) a3).1, a2, (key g (a1.alloc o) a3).2⟩
    · have : g = W.heap.size := by simpa using hg
      subst this
      exact ⟨(key _ hbk hn).1, hlt, (key _ hbk hn).2⟩
  · rw [List.nodup_append]
    refine ⟨h.nd, by simp, fun a ha c hc => ?_⟩
    have : c = W.heap.size := by simpa using hc
    have := (h.each a ha).1.lt
    omega
  · exact ((h.b.alloc (by omega) o).alloc (by simp; omega) o2).trans (hb.mono (by omega))
theorem TbI.dt {w W : World} {hd : Bool} {b : List UInt8} {v : Value} {G : List Nat} (h : TbI w W hd b v G) (hl : G.length = b.length + 1) : ∃ go cap gs, v = .slice (some ⟨go, 0, none⟩) (b.length + 1) cap ∧ w.heap.size < go ∧ DT W go gs b.length (fun _ _ => false) ∧ (∀ p, p ≤ b.length → w.heap.size < gs p) := by
  have hget : ∀ p (hp : p ≤ b.length), G.getD p 0 = G[p]'(by omega) := fun p hp => by rw [List.getD_eq_getElem?_getD, List.getElem?_eq_getElem (by omega)]; rfl
  rcases h.own.2 with ⟨_, h0⟩ | ⟨go, cap, cur, hv, hb, hg, h1, h2, h3, h4⟩
  · omega
  · refine ⟨go, cap, fun p => G.getD p 0, by rw [hv, hl], by omega, ⟨⟨cur, _, hg, fun p hp => ?_⟩, fun p hp => ?_, fun p q hp hq e => ?_, fun p hp e => ?_⟩, fun p hp => ?_⟩
    · have hp' : p < G.length := by omega
      have := flat_at gV_len G p 0 G[p] (List.getElem?_eq_getElem hp') (by omega)
      rw [← h4, List.getElem?_take, if_pos (by omega), Array.getElem?_toList] at this
      simp only [Nat.mul_one, Nat.add_zero] at this
      have h5 : cur[p]? = some (.slice (some ⟨G[p], 0, none⟩) 128 128) := this
      show cur[p]? = some (.slice (some ⟨G.getD p 0, 0, none⟩) 128 128)
      rw [h5, hget p (by omega)]
    · show Blk W (G.getD p 0) 128 _
      rw [hget p hp]; exact (h.each _ (List.getElem_mem _)).1
    · have e : G.getD p 0 = G.getD q 0 := e
      rw [hget p hp, hget q hq] at e
      exact (List.getElem_inj h.nd).1 e
    · have e : G.getD p 0 = go := e
      rw [hget p hp] at e
      exact (h.each (G[p]'(by omega)) (List.getElem_mem _)).2.2 (by rw [hv, ← e]; rfl)
    · show w.heap.size < G.getD p 0
      rw [hget p hp]; exact (h.each _ (List.getElem_mem _)).2.1
/-- By right in the table. -/
noncomputable def inDb (hd : Bool) (b : List UInt8) : DTb := open Classical in fun a c => decide (InD hd b a c)
theorem inDb_iff (hd : Bool) (b : List UInt8) (a c : Nat) : inDb hd b a c = true ↔ InD hd b a c := by unfold inDb; simp
theorem inDb_eq {hd : Bool} {b : List UInt8} {F : DTb} (h : ∀ a c, F a c = true ↔ InD hd b a c) : F = inDb hd b := by
  funext a c
  have h1 := h a c
  have h2 := inDb_iff hd b a c
  cases hf : F a c <;> cases hi : inDb hd b a c
  · rfl
  · exact absurd (h1.2 (h2.1 hi)) (by rw [hf]; decide)
  · exact absurd (h2.2 (h1.1 hf)) (by rw [hi]; decide)
  · rfl
/-- While the table is swept again and again. -/
def StI (w wr : World) (hd : Bool) (b : List UInt8) (go : Nat) (gs : Nat → Nat) (again : Bool) (k : Nat) : Prop :=
  ∃ F, DT wr go gs b.length F ∧ (∀ a c, F a c = true → InD hd b a c) ∧ F 0 (dn 0 hd) = true ∧ Row wr w.heap.size #[.bool hd, .string (Wd.mkS b)] 31 ∧ Below w.heap.size w wr ∧ (again = true → cntF b.length F + 1 ≤ k) ∧ (again = false → F = inDb hd b)
/-- What States leaves. -/
def StPost (w : World) (hd : Bool) (b : List UInt8) (e : Ending) (w' : World) : Prop := ∃ go cap gs, e = .returned (.slice (some ⟨go, 0, none⟩) (b.length + 1) cap) ∧ w.heap.size ≤ go ∧ (∀ p, p ≤ b.length → w.heap.size ≤ gs p) ∧ DT w' go gs b.length (inDb hd b) ∧ Below w.heap.size w w'
set_option maxRecDepth 100000 in
theorem states_any (hd : Bool) (b : List UInt8) (w : World) (hg : GB b) :
    Calls Try.prog 90 #[.agg #[.bool hd, .string (Wd.mkS b)]] w (StPost w hd b) := by
  have HG := hide hg
  have hlen : b.length ≤ 300 := hg.short
  have hbs : (Wd.mkS b).size = b.length := Wd.mkS_size b
  have HT0 : Hid (TbI w (w.alloc (.cells #[.bool hd, .string (Wd.mkS b)] 31)) hd b (.slice none 0 0) []) := hide ⟨World.ownsRow_nil _ _ _ _, Row.new _ _ _, fun g hg => (by cases hg), List.nodup_nil, below_one _ _⟩
  have hmk : ∀ W : World, (Instr.makeSlice 125 (.int .i64 128) (.int .i64 128)).run Try.prog W = .ok (.slice (some ⟨W.heap.size, 0, none⟩) 128 128) (W.alloc (.cells (madeCells #[.bool false] 128) 4)) := fun W => mk_bools W 128 (by omega)
  obtain ⟨i0, hj0, hz0, hz1, hz2⟩ := info_parts Try.infoBs
  clear hg
  go_enter Try.func90, Try.ntmps90
  go_wp2
  generalize w.alloc (.cells #[.bool hd, .string (Wd.mkS b)] 31) = W0 at *
  go_loopw [3, 4] (fun a c wr => ∃ (p : Nat) (G : List Nat), p ≤ b.length + 1 ∧ G.length = p ∧ c = .int .i64 p ∧ TbI w wr hd b a G) (fun _ c _ => b.length + 1 - (intOf c).toNat)
  case atStart => exact ⟨0, [], by omega, rfl, rfl, HT0.out⟩
  case round =>
    clear HT0
    obtain ⟨p, G, hp, hGl, rfl, ht⟩ := hrel
    subst hGl
    have HT := hide ht
    clear ht
    obtain ⟨ao, cc, hv⟩ := own_v HT.out.own
    subst hv
    have y1 : wr.cell? ⟨w.heap.size, 1, none⟩ = some (.string (Wd.mkS b)) := HT.out.it.cell 1 rfl
    have hsz := HT.out.it.lt
    by_cases hpt : G.length ≤ b.length
    · go_wp2_with (first | (at_builtin; refine wpList_push (f := gV) gV_len rfl _ _ 139 rfl (w.heap.size + 1) 125 i0 _ 24 Try.underlying139 hj0 hz0 hz1 hz2 rfl (by decide) _ G wr.heap.size rfl ⟨_, 0, none⟩ rfl ?_ ?_ ?_ ?_ ?_ ?_ ?_; (exact (HT.out.own.alloc _).alloc _); (first | exact newsL _ _ _ | exact newsD2 wr _ (gV wr.heap.size) 125); (intro x hx; simp [gV] at hx; subst hx; rfl); (unfold maxLen; omega); (omega); (simp; omega); intro ao' cc' w5 hown' hbel' hsame' hat'; have HO5 := hide hown'; have HBL5 := hide hbel'; have HS5 := hide hsame'; have HAT5 := hide hat'; clear hown' hbel' hsame' hat'))
      go_round
      case measure => simp [intOf]; omega
      case rel => exact ⟨G.length + 1, G ++ [wr.heap.size], by omega, by simp, by go_num, HT.out.push (seen_new wr 128) _ HO5.out HBL5.out HS5.out HAT5.out⟩
    · have e : G.length = b.length + 1 := by omega
      obtain ⟨go, cap, gs, hv, hgo, hdt, hgs⟩ := HT.out.dt e
      have HDT := hide hdt
      have HIT := hide HT.out.it
      have HBB := hide HT.out.b
      have HGO := hide (show w.heap.size < go from hgo)
      have HGS := hide hgs
      have hge : ¬ ((G.length : Int) ≤ (b.length : Int)) := by omega
      rw [hv]
      clear hv hdt hgs e hpt hp HT hsz y1 hmk
      generalize G.length = Gl at *
      have hz0' : wr.cell? ⟨go, 0, none⟩ = some (.slice (some ⟨gs 0, 0, none⟩) 128 128) := HDT.out.out.cell 0 (by omega)
      have hy0 : wr.cell? ⟨w.heap.size, 0, none⟩ = some (.bool hd) := HIT.out.cell 0 rfl
      have hy1 : wr.cell? ⟨w.heap.size, 1, none⟩ = some (.string (Wd.mkS b)) := HIT.out.cell 1 rfl
      have HC0 : Hid (∀ t, t < 128 → wr.cell? ⟨gs 0, t, none⟩ = some (.bool false) ∧ wr.frozen? ⟨gs 0, t, none⟩ = false) := hide (fun t ht => ⟨(HDT.out.inn 0 (by omega)).cell t ht, (HDT.out.inn 0 (by omega)).frozen t⟩)
      have HST : Hid (StI w (wr.setCell ⟨gs 0, dn 0 hd, none⟩ (.bool true)) hd b go gs true (cntF b.length (setF (fun _ _ => false) 0 (dn 0 hd)) + 1)) := by
        refine hide ⟨_, HDT.out.set 0 (dn 0 hd) (by omega), fun a c hac => ?_, by simp [setF], HIT.out.setO (by have := HGS.out 0 (by omega); omega) _ _, HBB.out.setCell (show w.heap.size ≤ gs 0 by have := HGS.out 0 (by omega); omega) _, fun _ => Nat.le_refl _, fun h => by cases h⟩
        unfold setF at hac
        by_cases e : a = 0 ∧ c = dn 0 hd
        · rw [e.1, e.2]
          exact ⟨dn_lt _ (by omega), by rw [stOf_dn]; exact Rch.begin⟩
        · rw [if_neg e] at hac; cases hac
      generalize cntF b.length (setF (fun _ _ => false) 0 (dn 0 hd)) + 1 = n0 at *
      have hdn : dn 0 hd = cond hd 1 0 := by cases hd <;> rfl
      rw [hdn] at HST
      have hcd : cond hd 1 0 < 128 := by cases hd <;> decide
      obtain ⟨c0, f0⟩ := HC0.out _ hcd
      clear HC0 hcd hdn
      cases hd
      · have c0' : wr.cell? ⟨gs 0, 0, none⟩ = some (.bool false) := c0
        have f0' : wr.frozen? ⟨gs 0, 0, none⟩ = false := f0
        clear c0 f0
        go_wp2
        go_loopg [6] n0 (fun k a wr => ∃ again : Bool, a = .bool again ∧ StI w wr false b go gs again k)
        case atStart => exact ⟨true, rfl, HST.out⟩
        case round =>
          clear HST c0' f0' hz0' hy0 hy1 HIT HDT HBB
          obtain ⟨again, rfl, F, hdt, hsub, hbeg, hit, hbel, hcnt, hfin⟩ := hrel
          have HDT := hide hdt
          have HIT := hide hit
          have HBB := hide hbel
          have HFI := hide hfin
          have HCN := hide hcnt
          have HBG := hide hbeg
          have HSU := hide hsub
          clear hdt hit hbel hfin hcnt hbeg hsub
          cases again
          · go_wp2
            go_ret
            exact ⟨go, cap, gs, rfl, Nat.le_of_lt HGO.out, fun p hp => Nat.le_of_lt (HGS.out p hp), by rw [← HFI.out (by first | rfl | trivial)]; exact HDT.out, HBB.out⟩
          · have hy0 : wr.cell? ⟨w.heap.size, 0, none⟩ = some (.bool false) := HIT.out.cell 0 rfl
            have hy1 : wr.cell? ⟨w.heap.size, 1, none⟩ = some (.string (Wd.mkS b)) := HIT.out.cell 1 rfl
            have AS := hide (sweep_any false b wr go cap gs F HG.out HDT.out HSU.out)
            have hcl := HCN.out rfl
            clear HFI HCN
            go_wp2_with (go_at_call 123; refine AS.out.mono ?_; rintro e w1 ⟨F', any, rfl, hdt1, hsw1, hkp1⟩; have HD1 := hide hdt1; have HS1 := hide hsw1; have HK1 := hide hkp1; clear hdt1 hsw1 hkp1)
            have hrow : Row w1 w.heap.size #[.bool false, .string (Wd.mkS b)] 31 := HIT.out.same ((HK1.out (w.heap.size + 1) (fun p hp => HGS.out p hp) (by have := HIT.out.lt; omega)).block _ (by omega))
            have hbl : Below w.heap.size w w1 := HBB.out.trans (HK1.out w.heap.size (fun p hp => Nat.le_of_lt (HGS.out p hp)) HBB.out.size)
            cases any
            · go_roundg 0
              case measure => omega
              case rel => exact ⟨false, rfl, F', HD1.out, HS1.out.sub, HS1.out.mono _ _ HBG.out, hrow, hbl, fun h => (by cases h), fun _ => inDb_eq (HS1.out.whole HG.out HBG.out)⟩
            · go_roundg (cntF b.length F' + 1)
              case measure => have := HS1.out.less HG.out; omega
              case rel => exact ⟨true, rfl, F', HD1.out, HS1.out.sub, HS1.out.mono _ _ HBG.out, hrow, hbl, fun _ => Nat.le_refl _, fun h => (by cases h)⟩
      · have c0' : wr.cell? ⟨gs 0, 1, none⟩ = some (.bool false) := c0
        have f0' : wr.frozen? ⟨gs 0, 1, none⟩ = false := f0
        clear c0 f0
        go_wp2
        go_loopg [6] n0 (fun k a wr => ∃ again : Bool, a = .bool again ∧ StI w wr true b go gs again k)
        case atStart => exact ⟨true, rfl, HST.out⟩
        case round =>
          clear HST c0' f0' hz0' hy0 hy1 HIT HDT HBB
          obtain ⟨again, rfl, F, hdt, hsub, hbeg, hit, hbel, hcnt, hfin⟩ := hrel
          have HDT := hide hdt
          have HIT := hide hit
          have HBB := hide hbel
          have HFI := hide hfin
          have HCN := hide hcnt
          have HBG := hide hbeg
          have HSU := hide hsub
          clear hdt hit hbel hfin hcnt hbeg hsub
          cases again
          · go_wp2
            go_ret
            exact ⟨go, cap, gs, rfl, Nat.le_of_lt HGO.out, fun p hp => Nat.le_of_lt (HGS.out p hp), by rw [← HFI.out (by first | rfl | trivial)]; exact HDT.out, HBB.out⟩
          · have hy0 : wr.cell? ⟨w.heap.size, 0, none⟩ = some (.bool true) := HIT.out.cell 0 rfl
            have hy1 : wr.cell? ⟨w.heap.size, 1, none⟩ = some (.string (Wd.mkS b)) := HIT.out.cell 1 rfl
            have AS := hide (sweep_any true b wr go cap gs F HG.out HDT.out HSU.out)
            have hcl := HCN.out rfl
            clear HFI HCN
            go_wp2_with (go_at_call 123; refine AS.out.mono ?_; rintro e w1 ⟨F', any, rfl, hdt1, hsw1, hkp1⟩; have HD1 := hide hdt1; have HS1 := hide hsw1; have HK1 := hide hkp1; clear hdt1 hsw1 hkp1)
            have hrow : Row w1 w.heap.size #[.bool true, .string (Wd.mkS b)] 31 := HIT.out.same ((HK1.out (w.heap.size + 1) (fun p hp => HGS.out p hp) (by have := HIT.out.lt; omega)).block _ (by omega))
            have hbl : Below w.heap.size w w1 := HBB.out.trans (HK1.out w.heap.size (fun p hp => Nat.le_of_lt (HGS.out p hp)) HBB.out.size)
            cases any
            · go_roundg 0
              case measure => omega
              case rel => exact ⟨false, rfl, F', HD1.out, HS1.out.sub, HS1.out.mono _ _ HBG.out, hrow, hbl, fun h => (by cases h), fun _ => inDb_eq (HS1.out.whole HG.out HBG.out)⟩
            · go_roundg (cntF b.length F' + 1)
              case measure => have := HS1.out.less HG.out; omega
              case rel => exact ⟨true, rfl, F', HD1.out, HS1.out.sub, HS1.out.mono _ _ HBG.out, hrow, hbl, fun _ => Nat.le_refl _, fun h => (by cases h)⟩
end Go.Proofs.Ytecmfdkhcffpmaa
