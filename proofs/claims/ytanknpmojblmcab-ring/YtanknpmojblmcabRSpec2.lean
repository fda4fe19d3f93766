/-
  Plain functions: the document's answer: what is found in a line, brackets, plain forms.
-/
import Derived.Test.YtanknpmojblmcabRSpec
import Derived.Test.YtanknpmojblmcabSpec3
import Derived.RowKit
set_option linter.unusedSimpArgs false
set_option linter.unusedVariables false
namespace Go.Proofs.Ytanknpmojblmcab

/-- -1 for none. -/
def oi : Option Nat → Int
  | none => -1
  | some n => n
def pastI (L : List UInt8) : Nat → Nat → Nat
  | 0, i => i
  | n + 1, i => if letB (byt L i) then pastI L n (i + 1) else i
def behI (L key : List UInt8) : Nat → Nat → Option Nat
  | 0, _ => none
  | n + 1, i => if (cut L i (i + key.length) == key) = true then some (i + key.length) else behI L key n (i + 1)
/-- What stands behind the key in the line from a to b. -/
def behO (L : List UInt8) (a b : Nat) (key : List UInt8) : Option Nat := behI L key (b + 1 - key.length - a) a
def numR (L : List UInt8) : Nat → Nat → Int → Int
  | 0, _, n => n
  | f + 1, i, n => if digB (byt L i) then numR L f (i + 1) (Go.RowKit.wrap64 (Go.RowKit.wrap64 (10 * n) + ((byt L i : Int) - 48))) else n
def numI (L : List UInt8) : Option Nat → Int
  | none => 0
  | some i => numR L (L.length - i) i 0
def cloI (W : List UInt8) : Nat → Nat → Int → Nat
  | 0, _, _ => W.length - 1
  | f + 1, k, n => if byt W k = 40 then cloI W f (k + 1) (n + 1) else if byt W k = 41 then (if n - 1 = 0 then k else cloI W f (k + 1) (n - 1)) else cloI W f (k + 1) n
/-- The place at which the bracket at i is closed. -/
def clo (W : List UInt8) (i : Nat) : Nat := cloI W (W.length - i) i 0
def cutNI (W : List UInt8) (c : Nat) : Nat → Nat → Int → Nat → Nat
  | 0, _, _, m => m + 1
  | f + 1, k, n, m => if byt W k = 40 then cutNI W c f (k + 1) (n + 1) m else if byt W k = 41 then cutNI W c f (k + 1) (n - 1) m else if byt W k = c ∧ n = 0 then cutNI W c f (k + 1) n (m + 1) else cutNI W c f (k + 1) n m
/-- How many terms. -/
def cutN (W : List UInt8) (c : Nat) : Nat := cutNI W c W.length 0 0 0
def spareAt (W : List UInt8) (i : Nat) : Bool :=
  byt W i == 40 && ((!(decide (0 < i) && byt W (i - 1) == 38) && !(byt W (clo W i + 1) == 38)) || cutN (cut W (i + 1) (clo W i)) 124 == 1)
def spareI (W : List UInt8) : Nat → Nat → Option Nat
  | 0, _ => none
  | f + 1, i => if spareAt W i then some i else spareI W f (i + 1)
def spareO (W : List UInt8) : Option Nat := spareI W W.length 0
def without (W : List UInt8) (i k : Nat) : List UInt8 := W.take i ++ cut W (i + 1) k ++ W.drop (k + 1)
/-- The brackets of a want can be looked at. -/
def Bal (W : List UInt8) : Prop := ∀ i, byt W i = 40 → i < clo W i ∧ clo W i < W.length
def plainI : Nat → List UInt8 → List UInt8
  | 0, W => W
  | f + 1, W => match spareO W with
    | none => W
    | some i => plainI f (without W i (clo W i))
def PlainOK : Nat → List UInt8 → Prop
  | 0, W => Bal W ∧ spareO W = none
  | f + 1, W => Bal W ∧ ∀ i, spareO W = some i → PlainOK f (without W i (clo W i))

theorem cloI_le (W : List UInt8) (f : Nat) : ∀ (k : Nat) (n : Int), k + f ≤ W.length → cloI W f k n < W.length ∨ W.length = 0 := by
  induction f with
  | zero => intro k n h; unfold cloI; omega
  | succ f ih =>
    intro k n h
    unfold cloI
    split
    · exact ih (k + 1) _ (by omega)
    split
    · split
      · left; omega
      · exact ih (k + 1) _ (by omega)
    · exact ih (k + 1) _ (by omega)
theorem pastI_le (L : List UInt8) (n : Nat) : ∀ i, i ≤ pastI L n i ∧ pastI L n i ≤ i + n := by
  induction n with
  | zero => intro i; simp [pastI]
  | succ n ih =>
    intro i
    unfold pastI
    split
    · have := ih (i + 1); omega
    · omega
theorem behI_le (L key : List UInt8) (n : Nat) : ∀ i p, behI L key n i = some p → i + key.length ≤ p ∧ p + 1 ≤ i + key.length + n := by
  induction n with
  | zero => intro i p h; simp [behI] at h
  | succ n ih =>
    intro i p h
    unfold behI at h
    split at h
    · simp at h; omega
    · have := ih (i + 1) p h; omega

end Go.Proofs.Ytanknpmojblmcab
