/- The plain functions of the program's reader of the form. -/
import Derived.Test.YtecmfdkhcffpmaaPure
namespace Go.Proofs.Ytecmfdkhcffpmaa
open Go.RowKit
set_option linter.unusedSimpArgs false
set_option linter.unusedVariables false
namespace Wd
/-- What is open innermost is taken away, if it is that byte. -/
def shut (o : List UInt8) (c : Int) : Option (List UInt8) := if 0 < o.length ∧ at_ o (o.length - 1) = c then some (o.take (o.length - 1)) else none
def bodyP (st : St) (c : Int) : Option St :=
  if c = 43 ∨ c = 45 then some ⟨3, st.op, st.items⟩
  else if c = 114 ∨ c = 119 then some ⟨4, st.op, st.items⟩
  else if c = 60 ∨ c = 62 ∨ c = 122 then some st
  else if c = 40 then some ⟨st.want, st.op ++ [40], st.items⟩
  else if c = 91 then some ⟨st.want, st.op ++ [91], st.items⟩
  else if c = 124 then (match shut st.op 40 with | some o => some ⟨st.want, o ++ [124], st.items⟩ | none => none)
  else if c = 41 then (match shut st.op 124 with | some o => some ⟨st.want, o, st.items⟩ | none => none)
  else if c = 93 then (match shut st.op 91 with | some o => some ⟨st.want, o, st.items⟩ | none => none)
  else if c = 125 then (if st.op.length = 0 then some ⟨0, st.op, st.items⟩ else none)
  else if up c = true then some st else none
def stepP (st : St) (c : Int) : Option St :=
  if st.want = 0 then (if st.items < 8 ∧ (c = 116 ∨ c = 104 ∨ up c = true) then some ⟨1, st.op, st.items + 1⟩ else none)
  else if st.want = 1 then (if c = 123 then some ⟨2, st.op, st.items⟩ else none)
  else if st.want = 3 then (if lk c = true then some ⟨2, st.op, st.items⟩ else none)
  else if st.want = 4 then (if cl c = true then some ⟨2, st.op, st.items⟩ else none)
  else bodyP st c
def faultFrom : List UInt8 → Nat → St → Option Nat
  | [], i, st => if st.want ≠ 0 ∨ st.items = 0 then some i else none
  | c :: r, i, st => match stepP st (bt c) with
    | none => some i
    | some st' => faultFrom r (i + 1) st'
def fault (l : List UInt8) : Option Nat := faultFrom l 0 ⟨0, [], 0⟩
theorem faultFrom_step (s : ByteArray) (k : Nat) (st : St) (h : k < s.size) : faultFrom (s.data.toList.drop k) k st = match stepP st ((s[k].toNat : Nat) : Int) with | none => some k | some st' => faultFrom (s.data.toList.drop (k + 1)) (k + 1) st' := by
  rw [drop_cons s k h]; rfl
theorem faultFrom_end (s : ByteArray) (k : Nat) (st : St) (h : s.size ≤ k) (hk : k ≤ s.size) : faultFrom (s.data.toList.drop k) k st = if st.want ≠ 0 ∨ st.items = 0 then some s.size else none := by
  have e : k = s.size := by omega
  rw [List.drop_of_length_le (by rw [len_str]; exact h), e]; rfl
/-- Bytes in memory. -/
def bytesV (l : List UInt8) : List Value := l.map fun c => Value.int .u8 (bt c)
theorem bytesV_len (l : List UInt8) : (bytesV l).length = l.length := by simp [bytesV]
theorem bytesV_at (l : List UInt8) (j : Nat) (h : j < l.length) : (bytesV l)[j]? = some (.int .u8 (at_ l j)) := by
  simp [bytesV, at_, bt, h]
end Wd
end Go.Proofs.Ytecmfdkhcffpmaa
