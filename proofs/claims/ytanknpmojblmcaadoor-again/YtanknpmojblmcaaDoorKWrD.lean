/-
  A head as a line.
-/
import Derived.Test.YtanknpmojblmcaaDoorKBook
import Derived.Deep.RegionHeld3
import Derived.Deep.DrawnRows
set_option linter.unusedSimpArgs false
set_option linter.unusedVariables false
namespace Go.Proofs.YtanknpmojblmcaaDoor
open Go.RowKit

def wr0 (j : JV) : List UInt8 := [35, 74, 32] ++ j.name ++ [32, 110, 111, 100, 101, 115, 61] ++ dig2 j.nodes ++ [32, 116, 105, 109, 101, 61] ++ dig2 j.time
def wrA (j : JV) : List UInt8 := if j.arr = true then wr0 j ++ [32, 97, 114, 114, 97, 121, 61] ++ dig2 j.lo ++ [45] ++ dig2 j.hi else wr0 j
/-- A head's line. -/
def wrL (j : JV) (a : List UInt8) : List UInt8 := if a = [] then wrA j else wrA j ++ [32, 97, 102, 116, 101, 114, 61] ++ a

theorem wr0_bs (j : JV) : (⟨#[35, 74, 32]⟩ ++ bs j.name ++ ⟨#[32, 110, 111, 100, 101, 115, 61]⟩ ++ bs (dig2 j.nodes) ++ ⟨#[32, 116, 105, 109, 101, 61]⟩ ++ bs (dig2 j.time) : ByteArray) = bs (wr0 j) := by
  unfold wr0
  rw [← bs_append, ← bs_append, ← bs_append, ← bs_append, ← bs_append]; rfl
theorem wrA_bs (j : JV) (h : j.arr = true) : (bs (wr0 j) ++ ⟨#[32, 97, 114, 114, 97, 121, 61]⟩ ++ bs (dig2 j.lo) ++ ⟨#[45]⟩ ++ bs (dig2 j.hi) : ByteArray) = bs (wrA j) := by
  unfold wrA
  rw [if_pos h, ← bs_append, ← bs_append, ← bs_append, ← bs_append]; rfl
theorem wrL_bs (j : JV) {a : List UInt8} (h : a ≠ []) : (bs (wrA j) ++ ⟨#[32, 97, 102, 116, 101, 114, 61]⟩ ++ bs a : ByteArray) = bs (wrL j a) := by
  unfold wrL
  rw [if_neg h, ← bs_append, ← bs_append]; rfl
theorem empty_bs {a : List UInt8} (h : a = []) : (!(bs a).toList.isEmpty) = false := by rw [bs_toList, h]; rfl
theorem full_bs {a : List UInt8} (h : a ≠ []) : (!(bs a).toList.isEmpty) = true := by
  rw [bs_toList]
  cases a with
  | nil => exact absurd rfl h
  | cons _ _ => rfl
theorem dig2_len (n : Nat) : (dig2 n).length ≤ 2 := by unfold dig2; split <;> simp

/-- What again asks of a plain form. -/
structure AgainOK (j : JV) (want : List UInt8) : Prop where
  a1 : readJ (wrL j j.after) = [j]
  a2 : (readH (wrL j j.after)).2 = (0, 0)
  b1 : readJ (wrL j ([40, 40] ++ j.after ++ [41, 41])) = [j]
  b2 : (readH (wrL j ([40, 40] ++ j.after ++ [41, 41]))).2 = (0, 0)
  c1 : readJ (wrL j ([40] ++ j.after ++ [41, 124] ++ j.after)) = [{ j with after := j.after ++ [124] ++ j.after }]
  c2 : (readH (wrL j ([40] ++ j.after ++ [41, 124] ++ j.after))).2 = (0, 0)
  len : j.after.length ≤ want.length

end Go.Proofs.YtanknpmojblmcaaDoor
