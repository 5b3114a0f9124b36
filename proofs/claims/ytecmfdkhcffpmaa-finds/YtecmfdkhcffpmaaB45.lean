/- StO, StP, KpA, KwE, KwF, KpB, KwG, StS. -/
import Derived.Test.YtecmfdkhcffpmaaB44
import Derived.Test.YtecmfdkhcffpmaaB23
import Derived.Test.YtecmfdkhcffpmaaB18
import Derived.Laws.BytesArg
import Derived.Laws.IdiomStrings
import Derived.Laws.Concat
import Derived.OwnWalk
import Derived.BigQuiet
import Derived.Deep.QuietTactic
import Derived.Test.YtecmfdkhcffpmaaB24
import Derived.Test.YtecmfdkhcffpmaaB30
import Derived.Test.YtecmfdkhcffpmaaB25
import Derived.WalkSpells
import Derived.Maps.AppendAt
/- Contracts of the program's reports: races; kinds in order. -/
namespace Go.Proofs.Ytecmfdkhcffpmaa
open Go.RowKit
set_option linter.unusedSimpArgs false
set_option linter.unusedVariables false
set_option maxHeartbeats 8000000
open Mc

/-- Kinds by places, in memory. -/
structure Ki where
  g : Nat
  n : Nat
  f : Nat → Int
def kiV (k : Ki) : List Value := [.slice (some ⟨k.g, 0, none⟩) k.n k.n]
structure KiAll (w : World) (v : Value) (M : List Ki) : Prop where
  own : w.ownsRow 0 64 1 v M.length (M.flatMap kiV)
  each : ∀ m ∈ M, Blk w m.g m.n (fun p => .int .i64 (m.f p)) ∧ m.n ≤ 301
  len : M.length ≤ 8
theorem KiAll.below {w w' : World} {v : Value} {M : List Ki} (h : KiAll w v M) (hb : Below w.heap.size w w') : KiAll w' v M := ⟨own_belowZ h.own hb, fun m hm => ⟨(h.each m hm).1.below hb, (h.each m hm).2⟩, h.len⟩
def kiP (M : List Ki) (k i p : Nat) : Bool := match M[i]? with | some m => decide (m.f p = (k : Int)) | none => false
def kiN (M : List Ki) (i : Nat) : Nat := match M[i]? with | some m => m.n | none => 0
theorem kiP_at {M : List Ki} {i : Nat} {m : Ki} (h : M[i]? = some m) (k p : Nat) : kiP M k i p = decide (m.f p = (k : Int)) := by simp [kiP, h]
theorem kiN_at {M : List Ki} {i : Nat} {m : Ki} (h : M[i]? = some m) : kiN M i = m.n := by simp [kiN, h]
end Go.Proofs.Ytecmfdkhcffpmaa
/- Contracts of the program's reports: kinds; of items alone. -/
namespace Go.Proofs.Ytecmfdkhcffpmaa
open Go.RowKit
set_option linter.unusedSimpArgs false
set_option linter.unusedVariables false
set_option maxHeartbeats 8000000
open Mc

def stV (r : Rc) : List Value := (stA r.p r.h r.off).toList
theorem stV_arr (r : Rc) : (stV r).toArray = stA r.p r.h r.off := rfl
theorem Try.iStV (r : Rc) : (Try.prog.info? 114).map (·.size) = some (stV r).length := Try.iState
theorem Row.st8 {w : World} {g : Nat} {r : Rc} (h : Row w g (rcA r) 153) : w.rangeAt g 0 (stV r) := h.range 0 _ (fun j v hj => by
  rw [Nat.zero_add]
  have hlt : j < 8 := (List.getElem?_eq_some_iff.1 hj).1
  show (rcV r).toArray[j]? = _
  rw [List.getElem?_toArray, rcV, List.getElem?_append_left (by exact hlt)]
  exact hj)
structure KdI (w W : World) (k : Kn) (kao : Option Addr) (kc N g : Nat) (f : Nat → Int) : Prop where
  kr : Row W w.heap.size #[.bool k.hd, .bool k.hd, .string k.s, .slice (some ⟨k.lg, 0, none⟩) k.s.size k.s.size, .slice kao k.L.length kc] 150
  bl : Blk W g N (fun p => .int .i64 (f p))
  ge : w.heap.size < g
  b : Below w.heap.size w W
theorem KdI.below {w W W' : World} {k : Kn} {kao : Option Addr} {kc N g : Nat} {f : Nat → Int} (h : KdI w W k kao kc N g f) (hb : Below W.heap.size W W') : KdI w W' k kao kc N g f := ⟨h.kr.below hb, h.bl.below hb, h.ge, below_go h.b hb⟩
theorem KdI.set {w W : World} {k : Kn} {kao : Option Addr} {kc N g : Nat} {f : Nat → Int} (h : KdI w W k kao kc N g f) (p : Nat) (v : Int) : KdI w (W.setCell ⟨g, p, none⟩ (.int .i64 v)) k kao kc N g (fun q => if q = p then v else f q) := by
  have hg := h.ge
  refine ⟨h.kr.setO (by omega) _ _, (h.bl.set p _).congr (fun i hi => ?_), h.ge, h.b.setCell (show w.heap.size ≤ g by omega) _⟩
  by_cases e : i = p <;> simp [e]
end Go.Proofs.Ytecmfdkhcffpmaa
/- Plain: sources that are woven out of raw numbers are sources. -/
namespace Go.Proofs.Ytecmfdkhcffpmaa
open Go.RowKit
set_option linter.unusedSimpArgs false
set_option linter.unusedVariables false
namespace Wd
/-- The form's reader along a text. -/
def runS : St → List UInt8 → Option St
  | st, [] => some st
  | st, c :: r => match stepP st (bt c) with
    | none => none
    | some st' => runS st' r
/-- Bytes of a body without names. -/
def okB (b : List UInt8) : Prop := ∀ c ∈ b, up (bt c) = false ∧ bt c ≠ 123 ∧ bt c ≠ 125
theorem okB.app {a b : List UInt8} (ha : okB a) (hb : okB b) : okB (a ++ b) := by
  intro c hc
  rcases List.mem_append.1 hc with h | h
  · exact ha c h
  · exact hb c h
/-- A body that stands by itself. -/
structure Wv (b : List UInt8) : Prop where
  run : ∀ n, runS ⟨2, [], n⟩ b = some ⟨2, [], n⟩
  ok : okB b
/-- An item of a source: a thread or a handler. -/
def WvI (x : UInt8 × List UInt8) : Prop := (x.1 = 116 ∨ x.1 = 104) ∧ Wv x.2
theorem WvI.raw {x : UInt8 × List UInt8} (h : WvI x) : okRaw x := by
  refine ⟨?_, fun c hc => ⟨(h.2.ok c hc).2.1, (h.2.ok c hc).2.2⟩⟩
  rcases h.1 with e | e
  · exact Or.inl (by rw [e]; rfl)
  · exact Or.inr (Or.inl (by rw [e]; rfl))
/-- A byte of a number. -/
def b8 (n : Nat) : UInt8 := UInt8.ofNat n
theorem bt_b8 {n : Nat} (h : n < 256) : bt (b8 n) = n := by
  unfold bt b8
  rw [UInt8.toNat_ofNat', Nat.mod_eq_of_lt (by omega)]
/-- The parts of a program. -/
structure Pt where
  handler : Bool
  steps : List Int
theorem Wv.nil : Wv [] := ⟨fun n => rfl, fun c hc => by cases hc⟩
end Wd
end Go.Proofs.Ytecmfdkhcffpmaa
/- Contract of the weaver of sources: a body. -/
namespace Go.Proofs.Ytecmfdkhcffpmaa
open Go.RowKit
set_option linter.unusedSimpArgs false
set_option linter.unusedVariables false
set_option maxHeartbeats 8000000
open Wd

/-- Raw numbers in memory. -/
def IntsIn (w : World) (v : Value) (zs : List Int) : Prop :=
  ∃ (ao : Option Addr) (cap : Nat), v = .slice ao zs.length cap ∧ zs.length ≤ maxLen ∧ (∀ z ∈ zs, -9223372036854775808 ≤ z ∧ z ≤ 9223372036854775807) ∧
    ∀ i (h : i < zs.length), ∃ b, ao = some b ∧ b.block < w.heap.size ∧ w.cell? (b.add i) = some (.int .i64 zs[i])
theorem add_blk (b : Addr) (i : Nat) : (b.add i).block = b.block := by unfold Addr.add; split <;> rfl
theorem IntsIn.below {w w' : World} {v : Value} {zs : List Int} (h : IntsIn w v zs) {B : Nat} (hb : Below B w w') (hB : w.heap.size ≤ B) : IntsIn w' v zs := by
  obtain ⟨ao, cap, h1, h2, h3, h4⟩ := h
  refine ⟨ao, cap, h1, h2, h3, fun i hi => ?_⟩
  obtain ⟨b, e1, e2, e3⟩ := h4 i hi
  exact ⟨b, e1, Nat.lt_of_lt_of_le e2 hb.size, by rw [hb.cell (by rw [add_blk]; omega)]; exact e3⟩
end Go.Proofs.Ytecmfdkhcffpmaa
/- Contract of the weaver of sources: a program. -/
namespace Go.Proofs.Ytecmfdkhcffpmaa
open Go.RowKit
set_option linter.unusedSimpArgs false
set_option linter.unusedVariables false
set_option maxHeartbeats 8000000
open Wd

/-- The parts of a program in memory. -/
def PartsIn (w : World) (v : Value) (ps : List Pt) : Prop :=
  ∃ (ao : Option Addr) (cap : Nat), v = .slice ao ps.length cap ∧ ps.length ≤ maxLen ∧
    ∀ i (h : i < ps.length), ∃ b, ao = some b ∧ b.block < w.heap.size ∧ w.cell? (b.add (i * 2)) = some (.bool ps[i].handler) ∧ ∃ u, w.cell? (b.add (i * 2 + 1)) = some u ∧ IntsIn w u ps[i].steps
theorem PartsIn.below {w w' : World} {v : Value} {ps : List Pt} (h : PartsIn w v ps) {B : Nat} (hb : Below B w w') (hB : w.heap.size ≤ B) : PartsIn w' v ps := by
  obtain ⟨ao, cap, h1, h2, h4⟩ := h
  refine ⟨ao, cap, h1, h2, fun i hi => ?_⟩
  obtain ⟨b, e1, e2, e3, u, e4, e5⟩ := h4 i hi
  exact ⟨b, e1, Nat.lt_of_lt_of_le e2 hb.size, by rw [hb.cell (by rw [add_blk]; omega)]; exact e3, u, by rw [hb.cell (by rw [add_blk]; omega)]; exact e4, e5.below hb hB⟩
end Go.Proofs.Ytecmfdkhcffpmaa
/- Plain: scripts out of raw bytes; what holds of every trace; a script's beginning; commands that did nothing. -/
namespace Go.Proofs.Ytecmfdkhcffpmaa
open Go.RowKit
set_option linter.unusedSimpArgs false
set_option linter.unusedVariables false
open Mc
namespace Mc
open Wd
theorem bt_letter (its : List It) (S : Ma) (n c : Nat) (what : Int) : bt (u8 (command its S n c what).1) = (command its S n c what).1 :=
  bt_u8 (command_letter its S n c what).1 (command_letter its S n c what).2
end Mc
end Go.Proofs.Ytecmfdkhcffpmaa
/- Contract of the maker of scripts. -/
namespace Go.Proofs.Ytecmfdkhcffpmaa
open Go.RowKit
set_option linter.unusedSimpArgs false
set_option linter.unusedVariables false
set_option maxHeartbeats 8000000
open Wd Mc

theorem cell_two_new (w : World) (x y : Value) (t : TypeId) : ∀ j u, [x, y][j]? = some u → (w.alloc (.cells #[x, y] t)).cell? ((⟨w.heap.size, 0, none⟩ : Addr).add j) = some u := by
  intro j u h
  have hj : j < 2 := (List.getElem?_eq_some_iff.1 h).1
  rw [Addr.add_mid]
  rw [World.cell?_alloc_mark]
  match j, hj with
  | 0, _ => simpa using h
  | 1, _ => simpa using h
theorem own_two2 {w : World} {B : Nat} {v : Value} {acc : List UInt8} {c d : UInt8} (h : w.ownsRow B 5 1 v (acc.length + 2) (Wd.bytesV acc ++ [.int .u8 (bt c), .int .u8 (bt d)])) : w.ownsRow B 5 1 v (acc ++ [c, d]).length (Wd.bytesV (acc ++ [c, d])) := by
  have e : Wd.bytesV (acc ++ [c, d]) = Wd.bytesV acc ++ [.int .u8 (bt c), .int .u8 (bt d)] := by simp [Wd.bytesV]
  rw [e, List.length_append]; exact h
theorem wpList_bytes2 {ops : Array Oper} {rest : List Oper} {o : Oper} {a : Act} {w : World} {Q : Exit → Act → World → Prop} (hgd : o.guard = none) (s x : Operand)
    (ho : o.op = .call { callee := .builtin .append, args := #[s, x], argTypes := #[83, 83] })
    (B : Nat) (v : Value) (acc : List UInt8) (c d : UInt8) (hs : a.eval s = v) (g cap : Nat) (hx : a.eval x = .slice (some ⟨g, 0, none⟩) 2 cap)
    (hown : w.ownsRow B 5 1 v acc.length (Wd.bytesV acc)) (hcell : ∀ j u, [Value.int .u8 (bt c), Value.int .u8 (bt d)][j]? = some u → w.cell? ((⟨g, 0, none⟩ : Addr).add j) = some u) (hl : acc.length ≤ 1000000) (hB : B ≤ w.heap.size)
    (h : ∀ v' w', w'.ownsRow B 5 1 v' (acc ++ [c, d]).length (Wd.bytesV (acc ++ [c, d])) → w.grownBy w' v.ownBlock → wpList Try.prog ops Q rest (a.put o.dst v') w') :
    wpList Try.prog ops Q (o :: rest) a w := by
  obtain ⟨i0, hi0, hz0, hz1, hz2⟩ := info_parts Try.infoU8
  refine wpList_append_own w hgd s x 83 ho B 5 i0 (.int .u8 0) 1 1 Try.underlying83 hi0 hz0 hz1 hz2 rfl (by decide) v acc.length (Wd.bytesV acc) hs hown ⟨g, 0, none⟩ 2 cap [.int .u8 (bt c), .int .u8 (bt d)] hx rfl hcell (fun y hy => by simp at hy; rcases hy with rfl | rfl <;> rfl) (by unfold maxLen; omega) (by omega) hB ?_
  intro v' w' hown' hgr _
  exact h v' w' (own_two2 hown') hgr
end Go.Proofs.Ytecmfdkhcffpmaa
/- Contracts of the program's Show: the script along a way. -/
namespace Go.Proofs.Ytecmfdkhcffpmaa
open Go.RowKit
set_option linter.unusedSimpArgs false
set_option linter.unusedVariables false
set_option maxHeartbeats 8000000
open Mc

/-- The script along a way, from a place on. -/
def scriptW (i : Nat) (b : List UInt8) : Nat → List Rc → List UInt8
  | _, [] => [48, 46]
  | p, r :: rs => [48, if r.comma = true then 44 else 46] ++ ((if atB b p = 122 then [48, Wd.b8 (48 + i)] else []) ++ scriptW i b r.p rs)
def scriptP (i : Nat) (b : List UInt8) (way : List Rc) : List UInt8 := [48, Wd.b8 (48 + i)] ++ scriptW i b 0 way
theorem scriptW_step (i : Nat) (b : List UInt8) (p j : Nat) (L : List Rc) (r : Rc) (h : L[j]? = some r) : scriptW i b p (L.drop j) = [48, if r.comma = true then 44 else 46] ++ ((if atB b p = 122 then [48, Wd.b8 (48 + i)] else []) ++ scriptW i b r.p (L.drop (j + 1))) := by
  have hj := (List.getElem?_eq_some_iff.1 h).1
  have e : L[j] = r := (List.getElem?_eq_some_iff.1 h).2
  rw [List.drop_eq_getElem_cons hj, scriptW, e]
theorem own_new2 (w : World) (c d : UInt8) : (w.alloc (.cells #[.int .u8 (Wd.bt c), .int .u8 (Wd.bt d)] 5)).ownsRow w.heap.size 5 1 (.slice (some ⟨w.heap.size, 0, none⟩) 2 2) [c, d].length (Wd.bytesV [c, d]) := by
  refine ⟨rfl, .inr ⟨w.heap.size, 2, _, rfl, Nat.le_refl _, heap_alloc_last _ _, by simp, by decide, rfl, rfl⟩⟩
theorem fldP (b : Bool) (w : World) : (Instr.field 114 (.agg #[.int .i64 0, .bool false, .bool false, .bool false, .bool false, .bool false, .bool false, .bool b]) 0).run Try.prog w = .ok (.int .i64 0) w := by kernel_rfl
theorem Row.grownK {w w' : World} {g : Nat} {cs : Array Value} {t : TypeId} {o : Obj} {q : Option Nat} (h : Row w g cs t) (hg : (w.alloc o).grownBy w' q) (hne : q ≠ some g) : Row w' g cs t := by
  have := h.raw
  unfold Row
  rw [grown_oth hg g h.lt hne]; exact this
theorem wpList_bytes2A {ops : Array Oper} {rest : List Oper} {o : Oper} {a : Act} {w : World} {Q : Exit → Act → World → Prop} (hgd : o.guard = none) (s x : Operand)
    (ho : o.op = .call { callee := .builtin .append, args := #[s, x], argTypes := #[83, 83] })
    (B : Nat) (v : Value) (acc : List UInt8) (c d : UInt8) (hs : a.eval s = v) (g cap : Nat) (hx : a.eval x = .slice (some ⟨g, 0, none⟩) 2 cap)
    (hown : w.ownsRow B 5 1 v acc.length (Wd.bytesV acc)) (hcell : ∀ j u, [Value.int .u8 (Wd.bt c), Value.int .u8 (Wd.bt d)][j]? = some u → w.cell? ((⟨g, 0, none⟩ : Addr).add j) = some u) (hl : acc.length ≤ 1000000) (hB : B ≤ w.heap.size)
    (h : ∀ v' w', w'.ownsRow B 5 1 v' (acc ++ [c, d]).length (Wd.bytesV (acc ++ [c, d])) → w.grownBy w' v.ownBlock → (v'.ownBlock = v.ownBlock ∨ v'.ownBlock = some w.heap.size) → wpList Try.prog ops Q rest (a.put o.dst v') w') :
    wpList Try.prog ops Q (o :: rest) a w := by
  obtain ⟨i0, hi0, hz0, hz1, hz2⟩ := info_parts Try.infoU8
  refine wpList_append_own_at w hgd s x 83 ho B 5 i0 (.int .u8 0) 1 1 Try.underlying83 hi0 hz0 hz1 hz2 rfl (by decide) v acc.length (Wd.bytesV acc) hs hown ⟨g, 0, none⟩ 2 cap [.int .u8 (Wd.bt c), .int .u8 (Wd.bt d)] hx rfl hcell (fun y hy => by simp at hy; rcases hy with rfl | rfl <;> rfl) (by unfold maxLen; omega) (by omega) hB ?_
  intro v' w' hown' hgr _ hat
  exact h v' w' (own_two2 hown') hgr hat
set_option maxRecDepth 100000 in
theorem pscript_any (i : Nat) (hd : Bool) (s : ByteArray) (lg : Nat) (L : List Rc) (v : Value) (b : Nat) (w : World) (hi : i < 8) (hs : s.size ≤ 300) (hL : L.length ≤ 100000) (hp : ∀ r ∈ L, r.p ≤ 300) (hv : w.ownsRow b 153 10 v L.length (L.flatMap rcV)) (hbw : b ≤ w.heap.size) :
    Calls Try.prog 101 #[.int .i64 i, .agg [.bool hd, .string s, .slice (some ⟨lg, 0, none⟩) s.size s.size].toArray, v] w fun e w' => e = .returned (.string (Wd.mkS (scriptP i s.data.toList L))) ∧ Below w.heap.size w w' := by
  have HO := hide hv
  obtain ⟨ga, ca, hva⟩ := own_v hv
  subst hva
  have HP := hide hp
  clear hv hp
  have AB := hide (fun W => codeBeginX hd s (some ⟨lg, 0, none⟩) s.size s.size W)
  have AT := hide (fun p W (h : p ≤ 300) => codeAt_any hd s (some ⟨lg, 0, none⟩) s.size s.size p W (by omega) (by omega))
  have HBI : Hid (Wd.bt (Wd.b8 (48 + i)) = 48 + (i : Int)) := hide (by rw [Wd.bt_b8 (by omega)]; omega)
  generalize hT : scriptP i s.data.toList L = T
  have HT := hide hT
  clear hT
  obtain ⟨B, hB⟩ : ∃ B, w.heap.size + 1 = B := ⟨_, rfl⟩
  have HBB := hide hB
  clear hB
  have HC0 := hide (Row.new w [.bool hd, .string s, .slice (some ⟨lg, 0, none⟩) s.size s.size].toArray 111)
  have HBW0 := hide (below_one w (.cells [.bool hd, .string s, .slice (some ⟨lg, 0, none⟩) s.size s.size].toArray 111))
  have HN0 : Hid (((w.alloc (.cells [.bool hd, .string s, .slice (some ⟨lg, 0, none⟩) s.size s.size].toArray 111)).alloc (.cells #[.int .u8 48, .int .u8 (48 + (i : Int))] 5)).ownsRow B 5 1 (.slice (some ⟨w.heap.size + 1, 0, none⟩) 2 2) [48, Wd.b8 (48 + i)].length (Wd.bytesV [48, Wd.b8 (48 + i)])) := by
    apply hide
    have := own_new2 (w.alloc (.cells [.bool hd, .string s, .slice (some ⟨lg, 0, none⟩) s.size s.size].toArray 111)) 48 (Wd.b8 (48 + i))
    rw [HBI.out] at this
    have e : (w.alloc (.cells [.bool hd, .string s, .slice (some ⟨lg, 0, none⟩) s.size s.size].toArray 111)).heap.size = w.heap.size + 1 := by simp
    rw [e, HBB.out] at this
    rw [HBB.out]; exact this
  have hfl := fun W => fldP hd W
  go_enter Try.func101, Try.ntmps101
  go_wp2_with (first | (go_at_call 127; refine (AB.out _).mono ?_; rintro e w1 ⟨rfl, hb1⟩; have HC1 := hide ((HC0.out.alloc _).below hb1); have HN1 := hide (own_same HN0.out (fun g _ hl => hb1.block g hl)); have HB1 := hide ((HBW0.out.alloc (by simp) _).trans (hb1.mono (by simp; omega))); have hsz1 := hb1.size; clear hb1))
  have hbs1 : B ≤ w1.heap.size := by have := HBB.out; simp at hsz1; omega
  clear hsz1 HN0 HC0 HBW0 AB hfl
  go_loopw [8, 9, 23] (fun a p c wr => ∃ (j q : Nat) (acc : List UInt8), j ≤ L.length ∧ q ≤ 300 ∧ p = .int .i64 q ∧ c = .int .i64 j ∧ acc.length ≤ 2 + 4 * j ∧ T = acc ++ scriptW i s.data.toList q (L.drop j) ∧ wr.ownsRow B 5 1 a acc.length (Wd.bytesV acc) ∧ Row wr w.heap.size [.bool hd, .string s, .slice (some ⟨lg, 0, none⟩) s.size s.size].toArray 111 ∧ Below w.heap.size w wr ∧ B ≤ wr.heap.size) (fun _ _ c _ => L.length - (intOf c).toNat)
  case atStart => exact ⟨0, 0, [48, Wd.b8 (48 + i)], by omega, by omega, rfl, rfl, by simp, by rw [← HT.out]; rfl, HN1.out, HC1.out, HB1.out, hbs1⟩
  case round =>
    clear HN1 HC1 HB1 hbs1
    obtain ⟨j, q, acc, hj, hq, rfl, rfl, hal, hTT, hown, hrow, hb, hbs⟩ := hrel
    have HTT := hide hTT
    have HA := hide hown
    have HC := hide hrow
    have HB := hide hb
    clear hTT hown hrow hb
    by_cases hlt : j < L.length
    · obtain ⟨r, hr⟩ : ∃ r, L[j]? = some r := ⟨L[j], List.getElem?_eq_getElem hlt⟩
      have HRP := hide (HP.out r (List.mem_of_getElem? hr))
      obtain ⟨g1, c1, hv1, _, hg1, _, _, hr1⟩ := own_el rcV_len (own_same HO.out (fun g _ hl => HB.out.block g hl)) hr
      cases hv1
      have HR1 : Hid (wr.rangeAt g1 (j * 10) (rcV r)) := hide hr1
      have hj0 : (0 : Int) ≤ (j : Int) := by omega
      have hji : (j : Int) < (L.length : Int) := by omega
      have HSW := hide (scriptW_step i s.data.toList q j L r hr)
      have HQ := hide (AT.out q)
      have hqz := atB_bd s.data.toList q
      obtain ⟨Z, hZ⟩ : ∃ Z, scriptW i s.data.toList r.p (L.drop (j + 1)) = Z := ⟨_, rfl⟩
      rw [hZ] at HSW
      have HZ := hide hZ
      clear hZ
      generalize scriptW i s.data.toList q (L.drop j) = Y at *
      clear hr hr1
      generalize atB s.data.toList q = z at *
      obtain ⟨ord, hord⟩ : ∃ o : UInt8, (if r.comma = true then (44 : UInt8) else 46) = o := ⟨_, rfl⟩
      rw [hord] at HSW
      have HORD := hide hord
      clear hord
      obtain ⟨cm, hcm⟩ : ∃ c, r.comma = c := ⟨_, rfl⟩
      have HCM := hide hcm
      clear hcm
      cases cm
      · have HOB : Hid (Wd.bt ord = 46) := hide (by rw [← HORD.out, HCM.out]; rfl)
        by_cases hz : z = 122
        · have HTN : Hid (T = ((acc ++ [48, ord]) ++ [48, Wd.b8 (48 + i)]) ++ Z) := hide (by rw [HTT.out, HSW.out, if_pos hz]; simp)
          subst hz
          go_wp2_with (first | (have hx := HT3.out; at_builtin; refine wpList_bytes2 rfl _ _ rfl B _ (acc ++ [48, ord]) 48 (Wd.b8 (48 + i)) rfl _ _ rfl ?_ ?_ ?_ ?_ ?_; (exact HA3.out.alloc _); (rw [HBI.out]; exact cell_two_new _ _ _ _); (simp; omega); (simp; omega); intro v4 w4 hown4 hgr4; have HA4 := hide hown4; have HC4 := hide (HC3.out.grownK hgr4 (fun e => (by have h9 := HBB.out; have := (HA3.out.lt _ e).1; omega))); have HRR4 := hide (HRR3.out.grownK hgr4 (fun e => (by exact HNE2.out _ e rfl))); have HB4 := hide (HB3.out.trans ((grown_min hgr4 HA3.out).mono (by have h9 := HBB.out; omega))); have hbs4 : B ≤ w4.heap.size := (by have := hgr4.size; simp at this; omega); have p4 : w4.cell? ⟨wr.heap.size, 0, none⟩ = some (.int .i64 (r.p : Int)) := HRR4.out.cell 0 (rcA_p r); clear hown4 hgr4 hx) | (go_at_call 128; refine (HQ.out _ hq).mono ?_; rintro e w3 ⟨rfl, hb3⟩; have HA3 := hide (own_same HA2.out (fun g _ hl => hb3.block g hl)); have HC3 := hide (HC2.out.below hb3); have HRR3 := hide (HRR2.out.below hb3); have HB3 := hide (HB2.out.trans (hb3.mono HB2.out.size)); have hbs3 : B ≤ w3.heap.size := Nat.le_trans hbs2 hb3.size; have p3 : w3.cell? ⟨wr.heap.size, 0, none⟩ = some (.int .i64 (r.p : Int)) := HRR3.out.cell 0 (rcA_p r); have HT3 := hide True.intro; clear hb3) | (refine wpList_load_row rfl 111 _ rfl _ rfl 111 [.bool hd, .string s, .slice (some ⟨lg, 0, none⟩) s.size s.size].toArray (0, 0) _ ?_ Try.underlying111 rfl Try.iCode ?_; (exact HC2.out.raw)) | (at_builtin; refine wpList_bytes2A rfl _ _ rfl B _ acc 48 ord rfl _ _ rfl ?_ ?_ ?_ ?_ ?_; (exact HA1.out.alloc _); (rw [HOB.out]; exact cell_two_new _ _ _ _); (omega); (have := HS1.out; simp; omega); intro v2 w2 hown2 hgr2 hat2; have HE2 := hide hat2; have HA2 := hide hown2; have HC2 := hide (HC1.out.grownK hgr2 (fun e => (by have h9 := HBB.out; have := (HA1.out.lt _ e).1; omega))); have HRR2 := hide (HRR1.out.grownK hgr2 (fun e => (by have := (HAL.out _ e).2; omega))); have HB2 := hide (HB1.out.trans ((grown_min hgr2 HA1.out).mono (by have h9 := HBB.out; have := HS1.out; omega))); have hbs2 : B ≤ w2.heap.size := (by have h1 := HS1.out; have := hgr2.size; simp at this; omega); have HNE2 := hide (fun g (e : v2.ownBlock = some g) => (by rcases HE2.out with h | h; (rw [h] at e; have := (HAL.out _ e).2; omega); (rw [h] at e; injection e with e; have h1 := HS1.out; simp at e; omega) : g ≠ wr.heap.size)); clear hown2 hgr2 hat2) | (refine wpList_store_row rfl 153 _ _ rfl wr.heap.size (rcA r) rfl rfl 153 #[.int .i64 0, .bool false, .bool false, .bool false, .bool false, .bool false, .bool false, .bool false, .int .i64 0, .bool false] ?_ (Try.iRc _) rfl (rcA_one _) ?_; (exact (Row.new wr #[.int .i64 0, .bool false, .bool false, .bool false, .bool false, .bool false, .bool false, .bool false, .int .i64 0, .bool false] 153).raw); rw [World.setRow_alloc_new]; have HC1 := hide (HC.out.alloc (.cells (rcA r) 153)); have HRR1 := hide (Row.new wr (rcA r) 153); have HA1 := hide (HA.out.alloc (.cells (rcA r) 153)); have HB1 := hide (HB.out.alloc HB.out.size (.cells (rcA r) 153)); have HS1 := hide (show (wr.alloc (.cells (rcA r) 153)).heap.size = wr.heap.size + 1 by simp); have HAL := hide HA.out.lt; generalize wr.alloc (.cells (rcA r) 153) = w1 at *; have y9 : w1.cell? ⟨wr.heap.size, 9, none⟩ = some (.bool r.comma) := HRR1.out.cell 9 rfl; rw [HCM.out] at y9) | (refine wpList_load_mid rfl 153 _ rfl _ _ rfl (rcV r) _ ?_ Try.underlying153 rfl Try.iReached ?_; (exact HR1.out)))
          go_round
          case measure => simp [intOf]; omega
          case rel => exact ⟨j + 1, r.p, (acc ++ [48, ord]) ++ [48, Wd.b8 (48 + i)], by omega, HRP.out, rfl, by go_num, by simp; omega, by rw [HZ.out]; exact HTN.out, HA4.out, HC4.out, HB4.out, hbs4⟩
        · have HTN : Hid (T = (acc ++ [48, ord]) ++ Z) := hide (by rw [HTT.out, HSW.out, if_neg hz]; simp)
          have hzb : (z == 122) = false := by simp [hz]
          clear hz
          go_wp2_with (first | (go_at_call 128; refine (HQ.out _ hq).mono ?_; rintro e w3 ⟨rfl, hb3⟩; have HA3 := hide (own_same HA2.out (fun g _ hl => hb3.block g hl)); have HC3 := hide (HC2.out.below hb3); have HRR3 := hide (HRR2.out.below hb3); have HB3 := hide (HB2.out.trans (hb3.mono HB2.out.size)); have hbs3 : B ≤ w3.heap.size := Nat.le_trans hbs2 hb3.size; have p3 : w3.cell? ⟨wr.heap.size, 0, none⟩ = some (.int .i64 (r.p : Int)) := HRR3.out.cell 0 (rcA_p r); have HT3 := hide True.intro; clear hb3) | (refine wpList_load_row rfl 111 _ rfl _ rfl 111 [.bool hd, .string s, .slice (some ⟨lg, 0, none⟩) s.size s.size].toArray (0, 0) _ ?_ Try.underlying111 rfl Try.iCode ?_; (exact HC2.out.raw)) | (at_builtin; refine wpList_bytes2A rfl _ _ rfl B _ acc 48 ord rfl _ _ rfl ?_ ?_ ?_ ?_ ?_; (exact HA1.out.alloc _); (rw [HOB.out]; exact cell_two_new _ _ _ _); (omega); (have := HS1.out; simp; omega); intro v2 w2 hown2 hgr2 hat2; have HE2 := hide hat2; have HA2 := hide hown2; have HC2 := hide (HC1.out.grownK hgr2 (fun e => (by have h9 := HBB.out; have := (HA1.out.lt _ e).1; omega))); have HRR2 := hide (HRR1.out.grownK hgr2 (fun e => (by have := (HAL.out _ e).2; omega))); have HB2 := hide (HB1.out.trans ((grown_min hgr2 HA1.out).mono (by have h9 := HBB.out; have := HS1.out; omega))); have hbs2 : B ≤ w2.heap.size := (by have h1 := HS1.out; have := hgr2.size; simp at this; omega); have HNE2 := hide (fun g (e : v2.ownBlock = some g) => (by rcases HE2.out with h | h; (rw [h] at e; have := (HAL.out _ e).2; omega); (rw [h] at e; injection e with e; have h1 := HS1.out; simp at e; omega) : g ≠ wr.heap.size)); clear hown2 hgr2 hat2) | (refine wpList_store_row rfl 153 _ _ rfl wr.heap.size (rcA r) rfl rfl 153 #[.int .i64 0, .bool false, .bool false, .bool false, .bool false, .bool false, .bool false, .bool false, .int .i64 0, .bool false] ?_ (Try.iRc _) rfl (rcA_one _) ?_; (exact (Row.new wr #[.int .i64 0, .bool false, .bool false, .bool false, .bool false, .bool false, .bool false, .bool false, .int .i64 0, .bool false] 153).raw); rw [World.setRow_alloc_new]; have HC1 := hide (HC.out.alloc (.cells (rcA r) 153)); have HRR1 := hide (Row.new wr (rcA r) 153); have HA1 := hide (HA.out.alloc (.cells (rcA r) 153)); have HB1 := hide (HB.out.alloc HB.out.size (.cells (rcA r) 153)); have HS1 := hide (show (wr.alloc (.cells (rcA r) 153)).heap.size = wr.heap.size + 1 by simp); have HAL := hide HA.out.lt; generalize wr.alloc (.cells (rcA r) 153) = w1 at *; have y9 : w1.cell? ⟨wr.heap.size, 9, none⟩ = some (.bool r.comma) := HRR1.out.cell 9 rfl; rw [HCM.out] at y9) | (refine wpList_load_mid rfl 153 _ rfl _ _ rfl (rcV r) _ ?_ Try.underlying153 rfl Try.iReached ?_; (exact HR1.out)))
          go_round
          case measure => simp [intOf]; omega
          case rel => exact ⟨j + 1, r.p, acc ++ [48, ord], by omega, HRP.out, rfl, by go_num, by simp; omega, by rw [HZ.out]; exact HTN.out, HA3.out, HC3.out, HB3.out, hbs3⟩
      · have HOB : Hid (Wd.bt ord = 44) := hide (by rw [← HORD.out, HCM.out]; rfl)
        by_cases hz : z = 122
        · have HTN : Hid (T = ((acc ++ [48, ord]) ++ [48, Wd.b8 (48 + i)]) ++ Z) := hide (by rw [HTT.out, HSW.out, if_pos hz]; simp)
          subst hz
          go_wp2_with (first | (have hx := HT3.out; at_builtin; refine wpList_bytes2 rfl _ _ rfl B _ (acc ++ [48, ord]) 48 (Wd.b8 (48 + i)) rfl _ _ rfl ?_ ?_ ?_ ?_ ?_; (exact HA3.out.alloc _); (rw [HBI.out]; exact cell_two_new _ _ _ _); (simp; omega); (simp; omega); intro v4 w4 hown4 hgr4; have HA4 := hide hown4; have HC4 := hide (HC3.out.grownK hgr4 (fun e => (by have h9 := HBB.out; have := (HA3.out.lt _ e).1; omega))); have HRR4 := hide (HRR3.out.grownK hgr4 (fun e => (by exact HNE2.out _ e rfl))); have HB4 := hide (HB3.out.trans ((grown_min hgr4 HA3.out).mono (by have h9 := HBB.out; omega))); have hbs4 : B ≤ w4.heap.size := (by have := hgr4.size; simp at this; omega); have p4 : w4.cell? ⟨wr.heap.size, 0, none⟩ = some (.int .i64 (r.p : Int)) := HRR4.out.cell 0 (rcA_p r); clear hown4 hgr4 hx) | (go_at_call 128; refine (HQ.out _ hq).mono ?_; rintro e w3 ⟨rfl, hb3⟩; have HA3 := hide (own_same HA2.out (fun g _ hl => hb3.block g hl)); have HC3 := hide (HC2.out.below hb3); have HRR3 := hide (HRR2.out.below hb3); have HB3 := hide (HB2.out.trans (hb3.mono HB2.out.size)); have hbs3 : B ≤ w3.heap.size := Nat.le_trans hbs2 hb3.size; have p3 : w3.cell? ⟨wr.heap.size, 0, none⟩ = some (.int .i64 (r.p : Int)) := HRR3.out.cell 0 (rcA_p r); have HT3 := hide True.intro; clear hb3) | (refine wpList_load_row rfl 111 _ rfl _ rfl 111 [.bool hd, .string s, .slice (some ⟨lg, 0, none⟩) s.size s.size].toArray (0, 0) _ ?_ Try.underlying111 rfl Try.iCode ?_; (exact HC2.out.raw)) | (at_builtin; refine wpList_bytes2A rfl _ _ rfl B _ acc 48 ord rfl _ _ rfl ?_ ?_ ?_ ?_ ?_; (exact HA1.out.alloc _); (rw [HOB.out]; exact cell_two_new _ _ _ _); (omega); (have := HS1.out; simp; omega); intro v2 w2 hown2 hgr2 hat2; have HE2 := hide hat2; have HA2 := hide hown2; have HC2 := hide (HC1.out.grownK hgr2 (fun e => (by have h9 := HBB.out; have := (HA1.out.lt _ e).1; omega))); have HRR2 := hide (HRR1.out.grownK hgr2 (fun e => (by have := (HAL.out _ e).2; omega))); have HB2 := hide (HB1.out.trans ((grown_min hgr2 HA1.out).mono (by have h9 := HBB.out; have := HS1.out; omega))); have hbs2 : B ≤ w2.heap.size := (by have h1 := HS1.out; have := hgr2.size; simp at this; omega); have HNE2 := hide (fun g (e : v2.ownBlock = some g) => (by rcases HE2.out with h | h; (rw [h] at e; have := (HAL.out _ e).2; omega); (rw [h] at e; injection e with e; have h1 := HS1.out; simp at e; omega) : g ≠ wr.heap.size)); clear hown2 hgr2 hat2) | (refine wpList_store_row rfl 153 _ _ rfl wr.heap.size (rcA r) rfl rfl 153 #[.int .i64 0, .bool false, .bool false, .bool false, .bool false, .bool false, .bool false, .bool false, .int .i64 0, .bool false] ?_ (Try.iRc _) rfl (rcA_one _) ?_; (exact (Row.new wr #[.int .i64 0, .bool false, .bool false, .bool false, .bool false, .bool false, .bool false, .bool false, .int .i64 0, .bool false] 153).raw); rw [World.setRow_alloc_new]; have HC1 := hide (HC.out.alloc (.cells (rcA r) 153)); have HRR1 := hide (Row.new wr (rcA r) 153); have HA1 := hide (HA.out.alloc (.cells (rcA r) 153)); have HB1 := hide (HB.out.alloc HB.out.size (.cells (rcA r) 153)); have HS1 := hide (show (wr.alloc (.cells (rcA r) 153)).heap.size = wr.heap.size + 1 by simp); have HAL := hide HA.out.lt; generalize wr.alloc (.cells (rcA r) 153) = w1 at *; have y9 : w1.cell? ⟨wr.heap.size, 9, none⟩ = some (.bool r.comma) := HRR1.out.cell 9 rfl; rw [HCM.out] at y9) | (refine wpList_load_mid rfl 153 _ rfl _ _ rfl (rcV r) _ ?_ Try.underlying153 rfl Try.iReached ?_; (exact HR1.out)))
          go_round
          case measure => simp [intOf]; omega
          case rel => exact ⟨j + 1, r.p, (acc ++ [48, ord]) ++ [48, Wd.b8 (48 + i)], by omega, HRP.out, rfl, by go_num, by simp; omega, by rw [HZ.out]; exact HTN.out, HA4.out, HC4.out, HB4.out, hbs4⟩
        · have HTN : Hid (T = (acc ++ [48, ord]) ++ Z) := hide (by rw [HTT.out, HSW.out, if_neg hz]; simp)
          have hzb : (z == 122) = false := by simp [hz]
          clear hz
          go_wp2_with (first | (go_at_call 128; refine (HQ.out _ hq).mono ?_; rintro e w3 ⟨rfl, hb3⟩; have HA3 := hide (own_same HA2.out (fun g _ hl => hb3.block g hl)); have HC3 := hide (HC2.out.below hb3); have HRR3 := hide (HRR2.out.below hb3); have HB3 := hide (HB2.out.trans (hb3.mono HB2.out.size)); have hbs3 : B ≤ w3.heap.size := Nat.le_trans hbs2 hb3.size; have p3 : w3.cell? ⟨wr.heap.size, 0, none⟩ = some (.int .i64 (r.p : Int)) := HRR3.out.cell 0 (rcA_p r); have HT3 := hide True.intro; clear hb3) | (refine wpList_load_row rfl 111 _ rfl _ rfl 111 [.bool hd, .string s, .slice (some ⟨lg, 0, none⟩) s.size s.size].toArray (0, 0) _ ?_ Try.underlying111 rfl Try.iCode ?_; (exact HC2.out.raw)) | (at_builtin; refine wpList_bytes2A rfl _ _ rfl B _ acc 48 ord rfl _ _ rfl ?_ ?_ ?_ ?_ ?_; (exact HA1.out.alloc _); (rw [HOB.out]; exact cell_two_new _ _ _ _); (omega); (have := HS1.out; simp; omega); intro v2 w2 hown2 hgr2 hat2; have HE2 := hide hat2; have HA2 := hide hown2; have HC2 := hide (HC1.out.grownK hgr2 (fun e => (by have h9 := HBB.out; have := (HA1.out.lt _ e).1; omega))); have HRR2 := hide (HRR1.out.grownK hgr2 (fun e => (by have := (HAL.out _ e).2; omega))); have HB2 := hide (HB1.out.trans ((grown_min hgr2 HA1.out).mono (by have h9 := HBB.out; have := HS1.out; omega))); have hbs2 : B ≤ w2.heap.size := (by have h1 := HS1.out; have := hgr2.size; simp at this; omega); have HNE2 := hide (fun g (e : v2.ownBlock = some g) => (by rcases HE2.out with h | h; (rw [h] at e; have := (HAL.out _ e).2; omega); (rw [h] at e; injection e with e; have h1 := HS1.out; simp at e; omega) : g ≠ wr.heap.size)); clear hown2 hgr2 hat2) | (refine wpList_store_row rfl 153 _ _ rfl wr.heap.size (rcA r) rfl rfl 153 #[.int .i64 0, .bool false, .bool false, .bool false, .bool false, .bool false, .bool false, .bool false, .int .i64 0, .bool false] ?_ (Try.iRc _) rfl (rcA_one _) ?_; (exact (Row.new wr #[.int .i64 0, .bool false, .bool false, .bool false, .bool false, .bool false, .bool false, .bool false, .int .i64 0, .bool false] 153).raw); rw [World.setRow_alloc_new]; have HC1 := hide (HC.out.alloc (.cells (rcA r) 153)); have HRR1 := hide (Row.new wr (rcA r) 153); have HA1 := hide (HA.out.alloc (.cells (rcA r) 153)); have HB1 := hide (HB.out.alloc HB.out.size (.cells (rcA r) 153)); have HS1 := hide (show (wr.alloc (.cells (rcA r) 153)).heap.size = wr.heap.size + 1 by simp); have HAL := hide HA.out.lt; generalize wr.alloc (.cells (rcA r) 153) = w1 at *; have y9 : w1.cell? ⟨wr.heap.size, 9, none⟩ = some (.bool r.comma) := HRR1.out.cell 9 rfl; rw [HCM.out] at y9) | (refine wpList_load_mid rfl 153 _ rfl _ _ rfl (rcV r) _ ?_ Try.underlying153 rfl Try.iReached ?_; (exact HR1.out)))
          go_round
          case measure => simp [intOf]; omega
          case rel => exact ⟨j + 1, r.p, acc ++ [48, ord], by omega, HRP.out, rfl, by go_num, by simp; omega, by rw [HZ.out]; exact HTN.out, HA3.out, HC3.out, HB3.out, hbs3⟩
    · have HTN : Hid (T = acc ++ [48, 46]) := hide (by rw [HTT.out, List.drop_of_length_le (by omega)]; rfl)
      go_wp2_with (first | (at_builtin; refine wpList_bytes2 rfl _ _ rfl B _ acc 48 46 rfl _ _ rfl ?_ ?_ ?_ ?_ ?_; (exact HA.out.alloc _); (exact cell_two_new _ _ _ _); (omega); (simp; omega); intro v2 w2 hown2 hgr2; have hcv := conv_own hown2; have HB2 := hide (HB.out.trans ((grown_min hgr2 HA.out).mono (by have h9 := HBB.out; omega))); clear hown2 hgr2))
      go_ret
      exact ⟨by rw [HTN.out]; rfl, HB2.out⟩
end Go.Proofs.Ytecmfdkhcffpmaa
