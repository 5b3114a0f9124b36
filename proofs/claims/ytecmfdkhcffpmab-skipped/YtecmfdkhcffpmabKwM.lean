/- Appending to a row of bytes: some more. -/
import Derived.Test.YtecmfdkhcffpmabB46
import Derived.Maps.AppendAt
namespace Go.Proofs.Ytecmfdkhcffpmab
open Go.RowKit
set_option linter.unusedSimpArgs false
set_option linter.unusedVariables false
open Wd Mc
theorem own_moreB {w : World} {B : Nat} {v : Value} {acc new : List UInt8} (h : w.ownsRow B 5 1 v (acc.length + new.length) (Wd.bytesV acc ++ Wd.bytesV new)) : w.ownsRow B 5 1 v (acc ++ new).length (Wd.bytesV (acc ++ new)) := by
  rw [bytesV_app, List.length_append]; exact h
theorem wpList_byteA {ops : Array Oper} {rest : List Oper} {o : Oper} {a : Act} {w : World} {Q : Exit → Act → World → Prop} (hgd : o.guard = none) (s x : Operand)
    (ho : o.op = .call { callee := .builtin .append, args := #[s, x], argTypes := #[30, 30] })
    (B : Nat) (v : Value) (acc : List UInt8) (c : UInt8) (hs : a.eval s = v) (g cap : Nat) (hx : a.eval x = .slice (some ⟨g, 0, none⟩) 1 cap)
    (hown : w.ownsRow B 5 1 v acc.length (Wd.bytesV acc)) (hcell : ∀ j u, [Value.int .u8 (bt c)][j]? = some u → w.cell? ((⟨g, 0, none⟩ : Addr).add j) = some u) (hl : acc.length ≤ 1000000) (hB : B ≤ w.heap.size)
    (h : ∀ v' w', w'.ownsRow B 5 1 v' (acc ++ [c]).length (Wd.bytesV (acc ++ [c])) → w.grownBy w' v.ownBlock → (v'.ownBlock = v.ownBlock ∨ v'.ownBlock = some w.heap.size) → wpList Try.prog ops Q rest (a.put o.dst v') w') :
    wpList Try.prog ops Q (o :: rest) a w := by
  obtain ⟨i0, hi0, hz0, hz1, hz2⟩ := info_parts Try.infoU8
  refine wpList_append_own_at w hgd s x 30 ho B 5 i0 (.int .u8 0) 1 1 Try.underlying30 hi0 hz0 hz1 hz2 rfl (by decide) v acc.length (Wd.bytesV acc) hs hown ⟨g, 0, none⟩ 1 cap [.int .u8 (bt c)] hx rfl hcell (fun y hy => by simp at hy; subst hy; rfl) (by unfold maxLen; omega) (by omega) hB ?_
  intro v' w' hown' hgr _ hat
  exact h v' w' (own_moreB (new := [c]) hown') hgr hat
theorem own_oth {w w' : World} {base : Nat} {e : TypeId} {size : Nat} {v : Value} {n : Nat} {xs : List Value} (h : w.ownsRow base e size v n xs) (hb : ∀ g, v.ownBlock = some g → w'.heap[g]? = w.heap[g]?) : w'.ownsRow base e size v n xs := by
  obtain ⟨a1, a2⟩ := h
  refine ⟨a1, ?_⟩
  rcases a2 with a2 | ⟨g', cap, cur, hv', hg, hh, r⟩
  · exact .inl a2
  · exact .inr ⟨g', cap, cur, hv', hg, by rw [hb g' (by rw [hv']; rfl)]; exact hh, r⟩
theorem grown_minD {w w' : World} {B : Nat} {e : TypeId} {size n : Nat} {v : Value} {xs : List Value} {o : Obj} (hg : (w.alloc o).drew.grownBy w' v.ownBlock) (ho : w.ownsRow B e size v n xs) : Below (min B w.heap.size) w w' :=
  (((Below.refl _ _).alloc (Nat.min_le_right _ _) o).drew).grown hg (by simp; omega) (fun q hq => Nat.le_trans (Nat.min_le_left _ _) (ho.lt q hq).1)
theorem grown_othD {w3 w5 : World} {o : Obj} {q : Option Nat} (hg : (w3.alloc o).drew.grownBy w5 q) : ∀ j, j < w3.heap.size → q ≠ some j → w5.heap[j]? = w3.heap[j]? := fun j hj hne => by
  rw [hg.block j (by simp; omega) (fun e => hne e.symm), heap_drew, heap_alloc_old _ _ hj]
/-- Two rows of bytes apart; one grows. -/
theorem two_rows {w w' : World} {B : Nat} {a c c' : Value} {n : Nat} {xs : List Value} {o : Obj} (ha : w.ownsRow B 5 1 a n xs) (hd : ∀ g, a.ownBlock = some g → c.ownBlock ≠ some g) (hg : (w.alloc o).grownBy w' c.ownBlock) (hat : c'.ownBlock = c.ownBlock ∨ c'.ownBlock = some (w.alloc o).heap.size) :
    w'.ownsRow B 5 1 a n xs ∧ (∀ g, a.ownBlock = some g → c'.ownBlock ≠ some g) := by
  refine ⟨own_oth ha fun g hgb => grown_oth hg g (ha.lt g hgb).2 (hd g hgb), fun g hgb => ?_⟩
  rcases hat with e | e
  · rw [e]; exact hd g hgb
  · rw [e]; intro h; injection h with h; have := (ha.lt g hgb).2; simp at h; omega
theorem two_rowsD {w w' : World} {B : Nat} {a c : Value} {m : Nat} {ys : List Value} {o : Obj} {gg cap : Nat} {k : Nat} (hc : w.ownsRow B 5 1 c m ys) (hd : ∀ g, a.ownBlock = some g → c.ownBlock ≠ some g) (hg : (w.alloc o).drew.grownBy w' a.ownBlock) (hat : a.ownBlock = some gg ∨ gg = w.heap.size + 1) :
    w'.ownsRow B 5 1 c m ys ∧ (∀ g, (Value.slice (some ⟨gg, 0, none⟩) k cap).ownBlock = some g → c.ownBlock ≠ some g) := by
  refine ⟨own_oth hc fun g hgb => grown_othD hg g (hc.lt g hgb).2 (fun e => hd g e hgb), fun g hgb => ?_⟩
  injection hgb with hgb
  subst hgb
  rcases hat with e | e
  · exact hd _ e
  · intro h
    have h2 : gg < w.heap.size := (hc.lt _ h).2
    omega
end Go.Proofs.Ytecmfdkhcffpmab
