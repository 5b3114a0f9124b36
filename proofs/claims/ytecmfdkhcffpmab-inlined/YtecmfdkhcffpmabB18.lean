/- MacC, MacD, MacE, OwnK, SrcF. -/
import Derived.Test.YtecmfdkhcffpmabB17
import Derived.Test.YtecmfdkhcffpmabB02
import Derived.Test.YtecmfdkhcffpmabB04
import Derived.Deep.MidRow
import Derived.Deep.QuietTactic
import Derived.Test.YtecmfdkhcffpmabB07
import Derived.Deep.RegionHeld3
import Derived.Laws.MakeOwn
import Derived.Deep.AppendLies
import Derived.Deep.RegionLaw
import Derived.Laws.BytesArg
import Derived.Laws.IdiomStrings
import Derived.Maps.AppendAt
import Derived.Lib.AppendStr
/- The document's machine in memory; contracts of its readers. -/
namespace Go.Proofs.Ytecmfdkhcffpmab
open Go.RowKit
set_option linter.unusedSimpArgs false
set_option linter.unusedVariables false
set_option maxHeartbeats 800000
open Mc

/-- The first n cells of block g. -/
def Blk (w : World) (g n : Nat) (f : Nat → Value) : Prop := ∃ cs t, w.heap[g]? = some (.cells cs t (0, 0)) ∧ ∀ i, i < n → cs[i]? = some (f i)
theorem Blk.lt {w : World} {g n : Nat} {f : Nat → Value} (h : Blk w g n f) : g < w.heap.size := by
  obtain ⟨cs, t, h1, h2⟩ := h; exact row_lt h1
theorem Blk.cell {w : World} {g n : Nat} {f : Nat → Value} (h : Blk w g n f) (i : Nat) (hi : i < n) : w.cell? ⟨g, i, none⟩ = some (f i) := by
  obtain ⟨cs, t, h1, h2⟩ := h; exact row_cell h1 (h2 i hi)
theorem Blk.frozen {w : World} {g n : Nat} {f : Nat → Value} (h : Blk w g n f) (i : Nat) : w.frozen? ⟨g, i, none⟩ = false := by
  obtain ⟨cs, t, h1, h2⟩ := h; exact frozen_of_row w g i cs t h1
theorem Blk.same {w w' : World} {g n : Nat} {f : Nat → Value} (h : Blk w g n f) (he : w'.heap[g]? = w.heap[g]?) : Blk w' g n f := by
  obtain ⟨cs, t, h1, h2⟩ := h; exact ⟨cs, t, he.trans h1, h2⟩
theorem Blk.below {w w' : World} {g n : Nat} {f : Nat → Value} (h : Blk w g n f) (hb : Below w.heap.size w w') : Blk w' g n f := h.same (hb.block g h.lt)
theorem Blk.alloc {w : World} {g n : Nat} {f : Nat → Value} (h : Blk w g n f) (o : Obj) : Blk (w.alloc o) g n f := h.same (Below.heap_alloc w o g h.lt)
theorem Blk.congr {w : World} {g n : Nat} {f f' : Nat → Value} (h : Blk w g n f) (he : ∀ i, i < n → f i = f' i) : Blk w g n f' := by
  obtain ⟨cs, t, h1, h2⟩ := h; exact ⟨cs, t, h1, fun i hi => by rw [h2 i hi, he i hi]⟩
theorem Blk.set {w : World} {g n : Nat} {f : Nat → Value} (h : Blk w g n f) (i : Nat) (v : Value) : Blk (w.setCell ⟨g, i, none⟩ v) g n (fun j => if j = i then v else f j) := by
  obtain ⟨cs, t, h1, h2⟩ := h
  refine ⟨_, t, heap_setCell_same _ _ _ _ _ _ h1, fun j hj => ?_⟩
  have h3 := h2 j hj
  have hlt : j < cs.size := (Array.getElem?_eq_some_iff.1 h3).1
  by_cases e : j = i
  · subst e; simp [Array.getElem?_setIfInBounds, hlt]
  · simp [Array.getElem?_setIfInBounds, e, Ne.symm e, h3]
theorem heap_setCells_other (g : Nat) : ∀ (vs : List Value) (o : Nat) (w : World) (k : Nat), k ≠ g → (w.setCells g o vs).heap[k]? = w.heap[k]?
  | [], _, _, _, _ => rfl
  | v :: r, o, w, k, h => by
    rw [World.setCells, heap_setCells_other g r (o + 1) _ k h]
    exact heap_setCell_other w ⟨g, o, none⟩ k v h
theorem Below.setCells {B : Nat} {a : World} (g : Nat) (hg : B ≤ g) : ∀ (vs : List Value) (o : Nat) (w : World), Below B a w → Below B a (w.setCells g o vs)
  | [], _, _, h => h
  | v :: r, o, w, h => by
    rw [World.setCells]; exact Below.setCells g hg r (o + 1) _ (h.setCell (p := ⟨g, o, none⟩) hg v)
theorem Blk.sets {g n : Nat} : ∀ (vs : List Value) (o : Nat) (w : World) (f : Nat → Value), Blk w g n f → Blk (w.setCells g o vs) g n (fun j => if o ≤ j then (vs[j - o]?).getD (f j) else f j)
  | [], o, w, f, h => by
    refine h.congr fun i hi => ?_
    simp
  | v :: r, o, w, f, h => by
    rw [World.setCells]
    refine (Blk.sets r (o + 1) _ _ (h.set o v)).congr fun i hi => ?_
    by_cases e : i = o
    · subst e; rw [if_neg (by omega)]; simp
    · by_cases e2 : o ≤ i
      · have e3 : i - o = (i - (o + 1)) + 1 := by omega
        rw [if_pos (by omega), if_pos e2, if_neg e, e3, List.getElem?_cons_succ]
      · rw [if_neg (by omega), if_neg e2, if_neg e]
theorem Blk.range {w : World} {g n : Nat} {f : Nat → Value} (h : Blk w g n f) (o : Nat) (vs : List Value) (hn : o + vs.length ≤ n) (hv : ∀ j (hj : j < vs.length), vs[j] = f (o + j)) : w.rangeAt g o vs := by
  intro j v hj
  obtain ⟨hl, rfl⟩ := List.getElem?_eq_some_iff.1 hj
  rw [h.cell (o + j) (by omega), hv j hl]
theorem Blk.there {w : World} {g n : Nat} {f : Nat → Value} (h : Blk w g n f) (o m : Nat) (hn : o + m ≤ n) : w.there g o m := fun j hj => ⟨by rw [h.cell (o + j) (by omega)]; rfl, h.frozen _⟩

def frV (f : Fr) : List Value := [.bool f.there, .int .i64 (f.item : Int), .int .i64 (f.pos : Int), .int .i64 (f.held : Int)]
def cpF (x : Cp) : Nat → Value
  | 0 => .bool x.t.there
  | 1 => .int .i64 (x.t.item : Int)
  | 2 => .int .i64 (x.t.pos : Int)
  | 3 => .int .i64 (x.t.held : Int)
  | 4 => .bool x.h.there
  | 5 => .int .i64 (x.h.item : Int)
  | 6 => .int .i64 (x.h.pos : Int)
  | 7 => .int .i64 (x.h.held : Int)
  | _ => .bool x.off
def cpsF (S : Ma) (i : Nat) : Value := cpF (S.cp (i / 9)) (i % 9)
def itF (its : List Wd.It) (i : Nat) : Value := if i % 2 = 0 then .bool (isH its (i / 2)) else .string (Wd.mkS (bodyOf its (i / 2)))
theorem cpsF_at (S : Ma) (c j : Nat) (hj : j < 9) : cpsF S (c * 9 + j) = cpF (S.cp c) j := by
  unfold cpsF
  rw [show (c * 9 + j) / 9 = c by omega, show (c * 9 + j) % 9 = j by omega]
/-- Where the machine's parts lie. -/
structure Ad where
  ai : Option Addr
  ci : Nat
  g1 : Nat
  c1 : Nat
  a2 : Option Addr
  c2 : Nat
  g3 : Nat
  c3 : Nat
structure DM (w : World) (N b : Nat) (A : Ad) (its : List Wd.It) (n : Nat) (S : Ma) : Prop where
  root : Blk w b 4 (fun i => if i = 0 then .slice A.ai its.length A.ci else if i = 1 then .slice (some ⟨A.g1, 0, none⟩) n A.c1 else if i = 2 then .slice A.a2 its.length A.c2 else .slice (some ⟨A.g3, 0, none⟩) its.length A.c3)
  items : 0 < its.length → ∃ g, A.ai = some ⟨g, 0, none⟩ ∧ Blk w g (its.length * 2) (itF its) ∧ g ≠ b ∧ g ≠ A.g1 ∧ g ≠ A.g3
  cpus : Blk w A.g1 (n * 9) (cpsF S)
  ready : 0 < its.length → ∃ g, A.a2 = some ⟨g, 0, none⟩ ∧ Blk w g its.length (fun i => .bool (S.rd i)) ∧ g ≠ b ∧ g ≠ A.g1 ∧ g ≠ A.g3 ∧ N ≤ g ∧ A.ai ≠ some ⟨g, 0, none⟩
  at_ : Blk w A.g3 its.length (fun i => .int .i64 (S.pl i : Int))
  ne : b ≠ A.g1 ∧ b ≠ A.g3 ∧ A.g1 ≠ A.g3 ∧ N ≤ b ∧ N ≤ A.g1 ∧ N ≤ A.g3
  caps : its.length ≤ A.ci ∧ A.ci ≤ maxLen ∧ n ≤ A.c1 ∧ A.c1 ≤ maxLen ∧ its.length ≤ A.c2 ∧ A.c2 ≤ maxLen ∧ its.length ≤ A.c3 ∧ A.c3 ≤ maxLen
  a2 : A.a2 ≠ some ⟨b, 0, none⟩ ∧ A.a2 ≠ some ⟨A.g1, 0, none⟩ ∧ A.a2 ≠ some ⟨A.g3, 0, none⟩ ∧ ∀ g, A.a2 = some ⟨g, 0, none⟩ → N ≤ g
theorem DM.below {w w' : World} {N b : Nat} {A : Ad} {its : List Wd.It} {n : Nat} {S : Ma} (h : DM w N b A its n S) (hb : Below w.heap.size w w') : DM w' N b A its n S :=
  ⟨h.root.below hb, fun hl => (h.items hl).imp fun g hg => ⟨hg.1, hg.2.1.below hb, hg.2.2⟩, h.cpus.below hb, fun hl => (h.ready hl).imp fun g hg => ⟨hg.1, hg.2.1.below hb, hg.2.2⟩, h.at_.below hb, h.ne, h.caps, h.a2⟩
theorem DM.alloc {w : World} {N b : Nat} {A : Ad} {its : List Wd.It} {n : Nat} {S : Ma} (h : DM w N b A its n S) (o : Obj) : DM (w.alloc o) N b A its n S := h.below ((Below.refl _ _).alloc (Nat.le_refl _) o)
theorem DM.cpAt {w : World} {N b : Nat} {A : Ad} {its : List Wd.It} {n : Nat} {S : Ma} (h : DM w N b A its n S) (c j : Nat) (hc : c < n) (hj : j < 9) : w.cell? ⟨A.g1, c * 9 + j, none⟩ = some (cpF (S.cp c) j) := by
  rw [h.cpus.cell (c * 9 + j) (by omega), cpsF_at S c j hj]
theorem DM.rangeT {w : World} {N b : Nat} {A : Ad} {its : List Wd.It} {n : Nat} {S : Ma} (h : DM w N b A its n S) (c : Nat) (hc : c < n) : w.rangeAt A.g1 (c * 9) (frV (S.cp c).t) := by
  refine h.cpus.range _ _ (by simp [frV]; omega) fun j hj => ?_
  simp [frV] at hj
  rw [cpsF_at S c j (by omega)]
  rcases j with _ | _ | _ | _ | j <;> first | rfl | omega
theorem DM.rangeH {w : World} {N b : Nat} {A : Ad} {its : List Wd.It} {n : Nat} {S : Ma} (h : DM w N b A its n S) (c : Nat) (hc : c < n) : w.rangeAt A.g1 (c * 9 + 4) (frV (S.cp c).h) := by
  refine h.cpus.range _ _ (by simp [frV]; omega) fun j hj => ?_
  simp [frV] at hj
  rw [Nat.add_assoc, cpsF_at S c (4 + j) (by omega)]
  rcases j with _ | _ | _ | _ | j <;> first | rfl | omega
end Go.Proofs.Ytecmfdkhcffpmab
/- Contracts of the document's machine: what stands at a frame's place; who holds a lock. -/
namespace Go.Proofs.Ytecmfdkhcffpmab
open Go.RowKit
set_option linter.unusedSimpArgs false
set_option linter.unusedVariables false
set_option maxHeartbeats 800000
open Mc

theorem num_cell {its : List Wd.It} (ho : ItsOK its) {i p : Nat} (hi : i < its.length) (h : atB (bodyOf its i) p = 114 ∨ atB (bodyOf its i) p = 119) : 0 ≤ num (bodyOf its i) p ∧ num (bodyOf its i) p ≤ 3 := by
  have hp : p < (bodyOf its i).length := by
    by_cases e : p < (bodyOf its i).length
    · exact e
    · simp [atB, e] at h
  simp only [atB, hp, if_true] at h
  obtain ⟨h1, h2, h3⟩ := (ho.pair i hi p hp).2 h
  rw [num, if_pos h1, if_neg (by omega)]; omega
end Go.Proofs.Ytecmfdkhcffpmab
/- Contracts of the document's machine: rings of processors that wait. -/
namespace Go.Proofs.Ytecmfdkhcffpmab
open Go.RowKit
set_option linter.unusedSimpArgs false
set_option linter.unusedVariables false
set_option maxHeartbeats 800000
open Mc

theorem below_go {a b c : World} (h1 : Below a.heap.size a b) (h2 : Below b.heap.size b c) : Below a.heap.size a c := h1.trans (h2.mono h1.size)
theorem below_new {a b : World} (h1 : Below a.heap.size a b) (o : Obj) : Below a.heap.size a (b.alloc o) := h1.alloc h1.size o
end Go.Proofs.Ytecmfdkhcffpmab
/- Own slices and rows that were made, for what follows. -/
namespace Go.Proofs.Ytecmfdkhcffpmab
open Go.RowKit
set_option linter.unusedSimpArgs false
set_option linter.unusedVariables false
set_option maxHeartbeats 8000000
open Mc
theorem Try.infoInt : (Try.prog.info? 3).map (fun i => (i.zero, i.size, i.bytes)) = some (some (.int .i64 0), 1, 8) := by kernel_rfl
theorem Try.infoBool : (Try.prog.info? 4).map (fun i => (i.zero, i.size, i.bytes)) = some (some (.bool false), 1, 1) := by kernel_rfl
theorem mk_ints (w : World) (n : Nat) (hn : n ≤ 1000) : (Instr.makeSlice 32 (.int .i64 n) (.int .i64 n)).run Try.prog w = .ok (.slice (some ⟨w.heap.size, 0, none⟩) n n) (w.alloc (.cells (madeCells #[.int .i64 0] n) 3)) := by
  obtain ⟨i, h1, h2, h3, h4⟩ := info_parts Try.infoInt
  have := run_make w 32 3 i _ Try.underlying32 h1 h2 .i64 .i64 n n (by omega) (by omega) (by rw [h4]; omega) (by omega)
  rw [this, h3]; simp [Value.cells]
theorem madeCells_at (z : Array Value) (m i : Nat) (h : i < m) : (madeCells z m)[i]? = some (z[i % z.size]!) := by simp [madeCells, h]
theorem own_same {w w' : World} {base : Nat} {e : TypeId} {size : Nat} {v : Value} {n : Nat} {xs : List Value} (h : w.ownsRow base e size v n xs) (hb : ∀ g, base ≤ g → g < w.heap.size → w'.heap[g]? = w.heap[g]?) : w'.ownsRow base e size v n xs := by
  obtain ⟨a1, a2⟩ := h
  refine ⟨a1, ?_⟩
  rcases a2 with a2 | ⟨g', cap, cur, hv', hg, hh, r⟩
  · exact .inl a2
  · exact .inr ⟨g', cap, cur, hv', hg, by rw [hb g' hg (row_lt hh)]; exact hh, r⟩
theorem newsL (w : World) (vs : List Value) (t : TypeId) : ∀ j u, vs[j]? = some u → (w.alloc (.cells vs.toArray t)).cell? ((⟨w.heap.size, 0, none⟩ : Addr).add j) = some u := World.news_of_block (cs := vs.toArray) (heap_alloc_last _ _)
theorem grown_oth {w3 w5 : World} {o : Obj} {q : Option Nat} (hg : (w3.alloc o).grownBy w5 q) : ∀ j, j < w3.heap.size → q ≠ some j → w5.heap[j]? = w3.heap[j]? := fun j hj hne => by
  rw [hg.block j (by simp; omega) (fun e => hne e.symm), heap_alloc_old _ _ hj]
theorem Blk.alloc3 {w w' : World} {g n : Nat} {f : Nat → Value} (h : Blk w g n f) (hb : Below w.heap.size w w') : Blk w' g n f := h.below hb
theorem own_v {w : World} {base : Nat} {e : TypeId} {size : Nat} {v : Value} {n : Nat} {xs : List Value} (h : w.ownsRow base e size v n xs) : ∃ ao c, v = .slice ao n c := by
  rcases h.2 with ⟨rfl, h0⟩ | ⟨g, cap, cur, rfl, _⟩
  · exact ⟨none, 0, by rw [h0]⟩
  · exact ⟨_, _, rfl⟩
end Go.Proofs.Ytecmfdkhcffpmab
/- Contracts of the program's 'unknownName', 'allDone', 'unfold'. -/
namespace Go.Proofs.Ytecmfdkhcffpmab
open Go.RowKit
set_option linter.unusedSimpArgs false
set_option linter.unusedVariables false
set_option maxHeartbeats 800000

theorem unknownName_any (s : ByteArray) (F : Nat → Wd.Fn) (v : Value) (b : Nat) (w : World) (hs : s.size ≤ 10000) (hb : w.heap[b]? = some (.cells (Wd.pgA v F) 128 (0, 0))) :
    Calls Try.prog 81 #[.pointer (some ⟨b, 0, none⟩), .string s] w fun e w' => e = .returned (.int .i64 (Wd.toInt (Wd.unknown F s.data.toList))) ∧ w' = w := by
  have HL := hide (Wd.len_str s)
  have HH := hide hb
  clear hb
  go_enter Try.func81, Try.ntmps81
  go_wp2
  go_loop [5] (fun i => ∃ k : Nat, k ≤ s.size ∧ i = .int .i64 k ∧ (∀ j, j < k → Wd.unkP F s.data.toList j = false)) (fun i => s.size - (intOf i).toNat)
  case atStart => exact ⟨0, Nat.zero_le _, rfl, fun j hj => by omega⟩
  case round =>
    obtain ⟨k, hk, rfl, hno⟩ := hrel
    have HN := hide hno
    clear hno
    by_cases hlt : k < s.size
    · have HP := hide (Wd.unkP_str F s k hlt)
      have b0 := Wd.at_lo s.data.toList k
      have b1 := Wd.at_hi s.data.toList k
      rw [← Wd.at_str s k hlt] at b0 b1
      cases hu : Wd.up ((s[k].toNat : Nat) : Int)
      · go_wp2_with (go_at_call 80; refine (isFunction_any _ _ b0 b1).mono ?_; rw [hu]; rintro e w' ⟨rfl, rfl⟩)
        go_round
        case rel => exact ⟨k + 1, by omega, by go_num, fun j hj => by
          by_cases e : j = k
          · subst e; rw [HP.out, hu]; rfl
          · exact HN.out j (by omega)⟩
        case measure => simp [intOf]; omega
      · have hu' := hu
        simp [Wd.up] at hu'
        have c0 : w.cell? ⟨b, 1 + (s[k].toNat - 65) * 5, none⟩ = some (.bool (F (s[k].toNat - 65)).there) := row_cell HH.out (Wd.pgA_at _ F _ 0 (by omega) _ rfl)
        cases ht : (F (s[k].toNat - 65)).there
        · rw [ht] at c0
          go_wp2_with (go_at_call 80; refine (isFunction_any _ _ b0 b1).mono ?_; rw [hu]; rintro e w' ⟨rfl, rfl⟩)
          go_ret
          refine ⟨ret_int ?_, rfl⟩
          rw [Wd.unknown, HL.out, Wd.first_yes hlt (by rw [HP.out, hu, ht]; rfl) HN.out]; rfl
        · rw [ht] at c0
          go_wp2_with (go_at_call 80; refine (isFunction_any _ _ b0 b1).mono ?_; rw [hu]; rintro e w' ⟨rfl, rfl⟩)
          go_round
          case rel => exact ⟨k + 1, by omega, by go_num, fun j hj => by
            by_cases e : j = k
            · subst e; rw [HP.out, hu, ht]; rfl
            · exact HN.out j (by omega)⟩
          case measure => simp [intOf]; omega
    · go_wp2
      go_ret
      refine ⟨ret_int ?_, rfl⟩
      rw [Wd.unknown, HL.out, Wd.first_no (fun j hj => HN.out j (by omega))]; rfl

theorem allDone_any (s : ByteArray) (F : Nat → Wd.Fn) (v : Value) (b : Nat) (w : World) (hs : s.size ≤ 10000) (hb : w.heap[b]? = some (.cells (Wd.pgA v F) 128 (0, 0))) :
    Calls Try.prog 96 #[.pointer (some ⟨b, 0, none⟩), .string s] w fun e w' => e = .returned (.bool (Wd.allDone F s.data.toList)) ∧ w' = w := by
  have HL := hide (Wd.len_str s)
  have HH := hide hb
  clear hb
  go_enter Try.func96, Try.ntmps96
  go_wp2
  go_loop [5] (fun i => ∃ k : Nat, k ≤ s.size ∧ i = .int .i64 k ∧ (∀ j, j < k → Wd.undoneP F s.data.toList j = false)) (fun i => s.size - (intOf i).toNat)
  case atStart => exact ⟨0, Nat.zero_le _, rfl, fun j hj => by omega⟩
  case round =>
    obtain ⟨k, hk, rfl, hno⟩ := hrel
    have HN := hide hno
    clear hno
    by_cases hlt : k < s.size
    · have HP := hide (Wd.undoneP_str F s k hlt)
      have b0 := Wd.at_lo s.data.toList k
      have b1 := Wd.at_hi s.data.toList k
      rw [← Wd.at_str s k hlt] at b0 b1
      cases hu : Wd.up ((s[k].toNat : Nat) : Int)
      · go_wp2_with (go_at_call 80; refine (isFunction_any _ _ b0 b1).mono ?_; rw [hu]; rintro e w' ⟨rfl, rfl⟩)
        go_round
        case rel => exact ⟨k + 1, by omega, by go_num, fun j hj => by
          by_cases e : j = k
          · subst e; rw [HP.out, hu]; rfl
          · exact HN.out j (by omega)⟩
        case measure => simp [intOf]; omega
      · have hu' := hu
        simp [Wd.up] at hu'
        have c0 : w.cell? ⟨b, 1 + (s[k].toNat - 65) * 5 + 2, none⟩ = some (.bool (F (s[k].toNat - 65)).done) := row_cell HH.out (Wd.pgA_at _ F _ 2 (by omega) _ rfl)
        cases ht : (F (s[k].toNat - 65)).done
        · rw [ht] at c0
          go_wp2_with (go_at_call 80; refine (isFunction_any _ _ b0 b1).mono ?_; rw [hu]; rintro e w' ⟨rfl, rfl⟩)
          go_ret
          exact ⟨by rw [Wd.allDone, HL.out, Wd.first_yes hlt (by rw [HP.out, hu, ht]; rfl) HN.out]; rfl, rfl⟩
        · rw [ht] at c0
          go_wp2_with (go_at_call 80; refine (isFunction_any _ _ b0 b1).mono ?_; rw [hu]; rintro e w' ⟨rfl, rfl⟩)
          go_round
          case rel => exact ⟨k + 1, by omega, by go_num, fun j hj => by
            by_cases e : j = k
            · subst e; rw [HP.out, hu, ht]; rfl
            · exact HN.out j (by omega)⟩
          case measure => simp [intOf]; omega
    · go_wp2
      go_ret
      exact ⟨by rw [Wd.allDone, HL.out, Wd.first_no (fun j hj => HN.out j (by omega))]; rfl, rfl⟩

/-- What 'unfold' leaves: the text and yes, or nothing and no; nothing old has turned. -/
def UnfPost (w : World) (r : Option (List UInt8)) (e : Ending) (w' : World) : Prop :=
  Below w.heap.size w w' ∧ (match r with | some t => e = .returned (.tuple #[.string (Wd.mkS t), .bool true]) | none => e = .returned (.tuple #[.string ⟨#[]⟩, .bool false]))

theorem own_some {w : World} {base : Nat} {e : TypeId} {size : Nat} {v : Value} {n : Nat} {xs : List Value} (h : w.ownsRow base e size v n xs) (hv : v ≠ .slice none 0 0) : ∃ g cap, v = .slice (some ⟨g, 0, none⟩) n cap := by
  rcases h.2 with ⟨h1, _⟩ | ⟨g, cap, cur, h1, _⟩
  · exact absurd h1 hv
  · exact ⟨g, cap, h1⟩
theorem own_bytes {w : World} {base : Nat} {g cap : Nat} {l : List UInt8} (h : w.ownsRow base 5 1 (.slice (some ⟨g, 0, none⟩) l.length cap) l.length (Wd.bytesV l)) :
    ∀ j (hj : j < l.length), w.cell? ((⟨g, 0, none⟩ : Addr).add j) = some (.int .u8 ((l[j].toNat : Nat) : Int)) := by
  intro j hj
  have := h.cells (g := g) rfl j (.int .u8 ((l[j].toNat : Nat) : Int)) (by simp [Wd.bytesV, Wd.bt, hj])
  exact this
theorem bytesV_app (a b : List UInt8) : Wd.bytesV (a ++ b) = Wd.bytesV a ++ Wd.bytesV b := by simp [Wd.bytesV]
set_option maxRecDepth 100000 in
set_option maxHeartbeats 1600000 in
theorem unfold_any (s : ByteArray) (F : Nat → Wd.Fn) (v : Value) (b : Nat) (w : World) (hs : s.size ≤ 10000) (hF : ∀ j, (F j).text.length ≤ 300) (hb : w.heap[b]? = some (.cells (Wd.pgA v F) 128 (0, 0))) :
    Calls Try.prog 83 #[.pointer (some ⟨b, 0, none⟩), .string s] w (UnfPost w (Wd.unfold F s.data.toList)) := by
  have HH := hide hb
  have HF := hide hF
  clear hb hF
  obtain ⟨i0, hi, hz0, hz1, hz2⟩ := info_parts Try.info5
  have hr0 : Hid (Wd.unfold F s.data.toList = Wd.unf F (s.data.toList.drop 0) []) := rfl
  generalize hr : Wd.unfold F s.data.toList = r at *
  clear hr
  go_enter Try.func83, Try.ntmps83
  go_wp2
  have s0 : (w.alloc (.cells #[] 5)).ownsRow w.heap.size 5 1 (.slice (some ⟨w.heap.size, 0, none⟩) 0 0) 0 [] := World.ownsRow_made w #[] 0 (Nat.le_refl _) (by unfold maxLen; omega) rfl
  have s1 : Below w.heap.size w (w.alloc (.cells #[] 5)) := (Below.refl _ _).alloc (Nat.le_refl _) _
  generalize w.alloc (.cells #[] 5) = W at *
  go_loopw [6, 7] (fun a b wr => ∃ (k : Nat) (acc : List UInt8) (g cap : Nat), k ≤ s.size ∧ b = .int .i64 k ∧ acc.length ≤ 300 ∧ a = .slice (some ⟨g, 0, none⟩) acc.length cap ∧ wr.ownsRow w.heap.size 5 1 (.slice (some ⟨g, 0, none⟩) acc.length cap) acc.length (Wd.bytesV acc) ∧ r = Wd.unf F (s.data.toList.drop k) acc ∧ Below w.heap.size w wr) (fun _ b _ => s.size - (intOf b).toNat)
  case atStart => exact ⟨0, [], w.heap.size, 0, Nat.zero_le _, rfl, by simp, rfl, s0, hr0.out, s1⟩
  case round =>
    clear s0 s1 hr0
    obtain ⟨k, acc, g, cap, hk, rfl, hal, rfl, hown, hr, hbe⟩ := hrel
    have HO := hide hown
    have HR := hide hr
    have HB := hide hbe
    clear hown hr hbe
    by_cases hlt : k < s.size
    · have HS := hide (Wd.unf_step F s k acc hlt)
      have b0 := Wd.at_lo s.data.toList k
      have b1 := Wd.at_hi s.data.toList k
      rw [← Wd.at_str s k hlt] at b0 b1
      cases hu : Wd.up ((s[k].toNat : Nat) : Int)
      · have HE : Hid (r = if 300 < (acc ++ [s[k]]).length then none else Wd.unf F (s.data.toList.drop (k + 1)) (acc ++ [s[k]])) := by
          apply hide; rw [HR.out, HS.out, hu]; rfl
        by_cases hg : 300 < acc.length + 1
        · have HE2 : Hid (r = none) := by apply hide; rw [HE.out, if_pos (by simp; omega)]
          go_wp2_with (first | (go_at_call 80; refine (isFunction_any _ _ b0 b1).mono ?_; rw [hu]; rintro e w' ⟨rfl, rfl⟩) | (at_builtin; refine wpList_append_own _ rfl _ _ 30 rfl w.heap.size 5 i0 (.int .u8 0) 1 1 Try.underlying30 hi hz0 hz1 hz2 rfl (by decide) _ _ _ rfl (HO.out.alloc _) ⟨_, 0, none⟩ 1 1 [.int .u8 ((s[k].toNat : Nat) : Int)] rfl rfl (cell_one_new _ _ _) (fun x hx => by simp at hx; subst hx; rfl) (by unfold maxLen; omega) (by omega) (by have := HB.out.size; simp; omega) ?_; intro v' w3 hown' hgrow3 hnil3; obtain ⟨g', cap', rfl⟩ := own_some hown' (fun e => by have h9 := (hnil3.1 e).1; cases h9); have HG := hide hgrow3; have HW := hide hown'; clear hgrow3 hown' hnil3))
          go_ret2
          rw [HE2.out]
          exact ⟨((HB.out.alloc HB.out.size _).grown HG.out (by have := HB.out.size; simp; omega) (fun q hq => (HO.out.lt q hq).1)), rfl⟩
        · have HE2 : Hid (r = Wd.unf F (s.data.toList.drop (k + 1)) (acc ++ [s[k]])) := by apply hide; rw [HE.out, if_neg (by simp; omega)]
          go_wp2_with (first | (go_at_call 80; refine (isFunction_any _ _ b0 b1).mono ?_; rw [hu]; rintro e w' ⟨rfl, rfl⟩) | (at_builtin; refine wpList_append_own _ rfl _ _ 30 rfl w.heap.size 5 i0 (.int .u8 0) 1 1 Try.underlying30 hi hz0 hz1 hz2 rfl (by decide) _ _ _ rfl (HO.out.alloc _) ⟨_, 0, none⟩ 1 1 [.int .u8 ((s[k].toNat : Nat) : Int)] rfl rfl (cell_one_new _ _ _) (fun x hx => by simp at hx; subst hx; rfl) (by unfold maxLen; omega) (by omega) (by have := HB.out.size; simp; omega) ?_; intro v' w3 hown' hgrow3 hnil3; obtain ⟨g', cap', rfl⟩ := own_some hown' (fun e => by have h9 := (hnil3.1 e).1; cases h9); have HG := hide hgrow3; have HW := hide hown'; clear hgrow3 hown' hnil3))
          refine ⟨⟨k + 1, acc ++ [s[k]], g', cap', by omega, by go_num, by simp; omega, by simp, ?_, HE2.out, ((HB.out.alloc HB.out.size _).grown HG.out (by have := HB.out.size; simp; omega) (fun q hq => (HO.out.lt q hq).1))⟩, by simp [intOf]; omega⟩
          rw [bytesV_app]
          have := HW.out
          simpa [Wd.bytesV, Wd.bt] using this
      · have hu' := hu
        simp [Wd.up] at hu'
        have HBl := hide (below_row HB.out HH.out)
        have r0 : wr.cell? ⟨b, 1 + (s[k].toNat - 65) * 5, none⟩ = some (.bool (F (s[k].toNat - 65)).there) := row_cell HBl.out (Wd.pgA_at _ F _ 0 (by omega) _ rfl)
        have r1 : wr.cell? ⟨b, 1 + (s[k].toNat - 65) * 5 + 1, none⟩ = some (.string (Wd.mkS (F (s[k].toNat - 65)).body)) := row_cell HBl.out (Wd.pgA_at _ F _ 1 (by omega) _ rfl)
        have r2 : wr.cell? ⟨b, 1 + (s[k].toNat - 65) * 5 + 2, none⟩ = some (.bool (F (s[k].toNat - 65)).done) := row_cell HBl.out (Wd.pgA_at _ F _ 2 (by omega) _ rfl)
        have r3 : wr.cell? ⟨b, 1 + (s[k].toNat - 65) * 5 + 3, none⟩ = some (.bool (F (s[k].toNat - 65)).fits) := row_cell HBl.out (Wd.pgA_at _ F _ 3 (by omega) _ rfl)
        have r4 : wr.cell? ⟨b, 1 + (s[k].toNat - 65) * 5 + 4, none⟩ = some (.string (Wd.mkS (F (s[k].toNat - 65)).text)) := row_cell HBl.out (Wd.pgA_at _ F _ 4 (by omega) _ rfl)
        have htl := HF.out (s[k].toNat - 65)
        have HE : Hid (r = if (F (s[k].toNat - 65)).fits = true then (if 300 < (acc ++ (F (s[k].toNat - 65)).text).length then none else Wd.unf F (s.data.toList.drop (k + 1)) (acc ++ (F (s[k].toNat - 65)).text)) else none) := by
          apply hide; rw [HR.out, HS.out, hu]; rfl
        generalize F (s[k].toNat - 65) = f at *
        obtain ⟨fth, fbd, fdn, fft, ftx⟩ := f
        simp only at r0 r1 r2 r3 r4 htl HE
        have htx : (Wd.mkS ftx).size = ftx.length := Wd.mkS_size ftx
        have hsc : Hid (Lib.strCells (Wd.mkS ftx) = Wd.bytesV ftx) := rfl
        generalize Wd.mkS ftx = tx at *
        generalize Wd.mkS fbd = bd at *
        have hts : tx.size ≤ 300 := by omega
        have HTX := hide htx
        clear htx
        cases fft
        · have HE2 : Hid (r = none) := by apply hide; rw [HE.out]; rfl
          go_wp2_with (go_at_call 80; refine (isFunction_any _ _ b0 b1).mono ?_; rw [hu]; rintro e w' ⟨rfl, rfl⟩)
          go_ret2
          rw [HE2.out]
          exact ⟨HB.out.alloc HB.out.size _, rfl⟩
        · by_cases hg : 300 < acc.length + tx.size
          · have HE2 : Hid (r = none) := by
              have := HTX.out
              apply hide; rw [HE.out, if_pos rfl, if_pos (by simp; omega)]
            go_wp2_with (first | (go_at_call 80; refine (isFunction_any _ _ b0 b1).mono ?_; rw [hu]; rintro e w' ⟨rfl, rfl⟩) | (at_builtin; refine Lib.wpList_append_own_string _ rfl _ _ 30 9 rfl w.heap.size 5 i0 Try.underlying30 Try.underlying9 hi hz0 hz1 hz2 _ _ _ rfl (HO.out.alloc _) tx rfl (by unfold maxLen; omega) (by omega) (by have := HB.out.size; simp; omega) ?_; intro v' w3 hown' hgrow3 hnil3; obtain ⟨g', cap', rfl⟩ := own_some hown' (fun e => by have h9 := (hnil3.1 e).1; cases h9); have HG := hide hgrow3; have HW := hide hown'; clear hgrow3 hown' hnil3))
            go_ret2
            rw [HE2.out]
            exact ⟨(((HB.out.alloc HB.out.size _)).grown HG.out (by have := HB.out.size; simp; omega) (fun q hq => (HO.out.lt q hq).1)), rfl⟩
          · have HE2 : Hid (r = Wd.unf F (s.data.toList.drop (k + 1)) (acc ++ ftx)) := by
              have := HTX.out
              apply hide; rw [HE.out, if_pos rfl, if_neg (by simp; omega)]
            go_wp2_with (first | (go_at_call 80; refine (isFunction_any _ _ b0 b1).mono ?_; rw [hu]; rintro e w' ⟨rfl, rfl⟩) | (at_builtin; refine Lib.wpList_append_own_string _ rfl _ _ 30 9 rfl w.heap.size 5 i0 Try.underlying30 Try.underlying9 hi hz0 hz1 hz2 _ _ _ rfl (HO.out.alloc _) tx rfl (by unfold maxLen; omega) (by omega) (by have := HB.out.size; simp; omega) ?_; intro v' w3 hown' hgrow3 hnil3; obtain ⟨g', cap', rfl⟩ := own_some hown' (fun e => by have h9 := (hnil3.1 e).1; cases h9); have HG := hide hgrow3; have HW := hide hown'; clear hgrow3 hown' hnil3))
            have htx := HTX.out
            refine ⟨⟨k + 1, acc ++ ftx, g', cap', by omega, by go_num, by simp; omega, by simp [htx], ?_, HE2.out, (((HB.out.alloc HB.out.size _)).grown HG.out (by have := HB.out.size; simp; omega) (fun q hq => (HO.out.lt q hq).1))⟩, by simp [intOf]; omega⟩
            rw [bytesV_app, List.length_append, ← htx, ← hsc.out]
            exact HW.out
    · have hcv := run_convert_bytes_back (P := Try.prog) wr 30 9 5 ⟨g, 0, none⟩ cap acc Try.underlying30 Try.underlying5 Try.underlying9 (own_bytes HO.out)
      go_wp2
      go_ret2
      rw [HR.out, Wd.unf_end F s k acc (by omega)]
      exact ⟨HB.out, rfl⟩
end Go.Proofs.Ytecmfdkhcffpmab
