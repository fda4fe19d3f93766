/-
  Plain functions: the stations that a text goes through, as the document's answer has them.
-/
import Derived.Test.YtanknpmojblmcabSpec
set_option linter.unusedSimpArgs false
set_option linter.unusedVariables false
namespace Go.Proofs.Ytanknpmojblmcab

structure ST where
  wh : Nat
  k : Nat
  which : Nat
  op : Nat
  no : Bool
  hd : Nat

def st0 : ST := ⟨0, 0, 0, 0, false, 0⟩
def pieceL : Nat → List UInt8
  | 0 => [32]
  | 1 => [32, 110, 111, 100, 101, 115, 61]
  | 2 => [32, 116, 105, 109, 101, 61]
  | 3 => [32, 97]
  | 4 => [114, 114, 97, 121, 61]
  | 5 => [45]
  | 6 => [32, 97, 102, 116, 101, 114, 61]
  | 7 => [102, 116, 101, 114, 61]
  | 8 => [111, 107, 58]
  | 9 => [97, 110, 121, 58]
  | 10 => [110, 111, 116, 58]
  | 11 => [115, 105, 110, 103, 108, 101]
  | 12 => [93]
  | _ => []
def litN : Nat → Nat × Nat
  | 0 => (4, 0)
  | 1 => (5, 0)
  | 2 => (5, 1)
  | 3 => (6, 0)
  | 4 => (5, 2)
  | 5 => (5, 3)
  | 6 => (7, 0)
  | 7 => (7, 0)
  | 8 => (8, 0)
  | 9 => (8, 0)
  | 10 => (8, 0)
  | _ => (9, 0)
def goS (st : ST) (wh which : Nat) : ST := { st with wh := wh, which := which, k := 0, no := false }
def litO (st : ST) (c : Nat) : Option ST :=
  if st.k < (pieceL st.which).length ∧ byt (pieceL st.which) st.k = c then
    if st.k + 1 < (pieceL st.which).length then some { st with k := st.k + 1 }
    else some (goS { st with k := st.k + 1 } (litN st.which).1 (litN st.which).2)
  else none
def begunO (st : ST) (which c : Nat) : Option ST := litO (goS st 3 which) c
def numberO (st : ST) (c : Nat) : Option ST :=
  if digB c = true ∧ (st.k = 0 ∨ (st.k = 1 ∧ st.no = false)) then some { st with no := c == 48, k := st.k + 1 }
  else if st.k = 0 then none
  else if st.which = 0 then begunO st 2 c
  else if st.which = 2 then begunO st 5 c
  else if st.which = 4 then begunO st 12 c
  else if c = 10 then some (goS st 0 0)
  else if st.which = 1 then begunO st 3 c
  else begunO st 6 c
def behindO (st : ST) (c : Nat) : Option ST :=
  if c = 38 ∨ c = 124 then some (goS st 7 0)
  else if c = 41 ∧ 0 < st.op then some (goS { st with op := st.op - 1 } 9 0)
  else if c = 10 ∧ st.op = 0 then some (goS st 0 0)
  else none
def nameO (st : ST) (c : Nat) : Option ST :=
  if letB c = true ∧ st.k < 6 then some { st with k := st.k + 1 }
  else if st.k = 0 then none
  else if st.wh = 4 then begunO st 1 c
  else if c = 91 then some (goS st 5 4)
  else behindO st c
def factorO (st : ST) (c : Nat) : Option ST :=
  if c = 40 then (if st.op + 1 ≤ 4 then some { st with op := st.op + 1 } else none)
  else if c = 111 then begunO st 8 c
  else if c = 97 then begunO st 9 c
  else if c = 110 then begunO st 10 c
  else if c = 115 then begunO st 11 c
  else none
def optionO (st : ST) (c : Nat) : Option ST := if c = 114 then begunO st 4 c else begunO st 7 c
def lineO (st : ST) (c : Nat) : Option ST :=
  if c = 10 then some (goS st 0 0)
  else if st.wh = 0 ∧ c = 35 then some (goS st 1 0)
  else if st.wh = 1 ∧ c = 74 then some (goS { st with hd := st.hd + 1, op := 0 } 3 0)
  else some (goS st 2 0)
def stepO (st : ST) (c : Nat) : Option ST :=
  if st.wh = 3 then litO st c
  else if st.wh = 4 ∨ st.wh = 8 then nameO st c
  else if st.wh = 5 then numberO st c
  else if st.wh = 6 then optionO st c
  else if st.wh = 7 then factorO st c
  else if st.wh = 9 then behindO st c
  else lineO st c
def wholeB (st : ST) : Bool :=
  if st.hd = 0 then false
  else if st.wh = 0 ∨ st.wh = 1 ∨ st.wh = 2 then true
  else if st.wh = 5 then decide (0 < st.k) && (decide (st.which = 1) || decide (st.which = 3))
  else if st.wh = 8 then decide (0 < st.k) && decide (st.op = 0)
  else if st.wh = 9 then decide (st.op = 0)
  else false
/-- The place of the error of what is left of a text; none: it is a batch. -/
def placeO (st : ST) : List UInt8 → Nat → Option Nat
  | [], i => if wholeB st then none else some i
  | c :: r, i => match stepO st c.toNat with
    | none => some i
    | some st' => placeO st' r (i + 1)

/-- The numbers of a station are small. -/
structure OKS (st : ST) (n : Nat) : Prop where
  k : st.k ≤ 10
  which : st.which ≤ 12
  op : st.op ≤ 4
  hd : st.hd ≤ n
  wh : st.wh ≤ 9

theorem pieceL_len (w : Nat) : (pieceL w).length ≤ 7 := by
  unfold pieceL; split <;> simp
theorem litN_le (w : Nat) : (litN w).1 ≤ 9 ∧ (litN w).2 ≤ 12 := by
  unfold litN; split <;> simp
theorem OKS.goes {st : ST} {n : Nat} (h : OKS st n) {a c : Nat} (ha : a ≤ 9) (hc : c ≤ 12) : OKS (goS st a c) n := ⟨Nat.zero_le _, hc, h.op, h.hd, ha⟩
theorem OKS.mono {st : ST} {n m : Nat} (h : OKS st n) (hm : n ≤ m) : OKS st m := ⟨h.k, h.which, h.op, Nat.le_trans h.hd hm, h.wh⟩
theorem OKS.lit {st st' : ST} {n c : Nat} (h : OKS st n) (e : litO st c = some st') : OKS st' n := by
  unfold litO at e
  have hl := pieceL_len st.which
  have hn := litN_le st.which
  split at e
  · split at e
    · cases e; exact ⟨by simp; omega, h.which, h.op, h.hd, h.wh⟩
    · cases e; exact ⟨Nat.zero_le _, hn.2, h.op, h.hd, hn.1⟩
  · cases e
theorem OKS.begun {st st' : ST} {n w c : Nat} (h : OKS st n) (hw : w ≤ 12) (e : begunO st w c = some st') : OKS st' n := (h.goes (by omega) hw).lit e
theorem OKS.behind {st st' : ST} {n c : Nat} (h : OKS st n) (e : behindO st c = some st') : OKS st' n := by
  unfold behindO at e
  split at e
  · cases e; exact h.goes (by omega) (by omega)
  split at e
  · cases e; exact ⟨Nat.zero_le _, Nat.zero_le _, by have := h.op; show st.op - 1 ≤ 4; omega, h.hd, by simp [goS]⟩
  split at e
  · cases e; exact h.goes (by omega) (by omega)
  · cases e
theorem OKS.step {st st' : ST} {n c : Nat} (h : OKS st n) (e : stepO st c = some st') : OKS st' (n + 1) := by
  unfold stepO at e
  split at e
  · exact (h.lit e).mono (by omega)
  split at e
  · refine OKS.mono (n := n) ?_ (by omega)
    unfold nameO at e
    split at e
    · cases e; exact ⟨by simp; omega, h.which, h.op, h.hd, h.wh⟩
    split at e
    · cases e
    split at e
    · exact h.begun (by omega) e
    split at e
    · cases e; exact h.goes (by omega) (by omega)
    · exact h.behind e
  split at e
  · refine OKS.mono (n := n) ?_ (by omega)
    unfold numberO at e
    split at e
    · cases e; exact ⟨by simp; omega, h.which, h.op, h.hd, h.wh⟩
    split at e
    · cases e
    split at e
    · exact h.begun (by omega) e
    split at e
    · exact h.begun (by omega) e
    split at e
    · exact h.begun (by omega) e
    split at e
    · cases e; exact h.goes (by omega) (by omega)
    split at e
    · exact h.begun (by omega) e
    · exact h.begun (by omega) e
  split at e
  · refine OKS.mono (n := n) ?_ (by omega)
    unfold optionO at e
    split at e
    · exact h.begun (by omega) e
    · exact h.begun (by omega) e
  split at e
  · refine OKS.mono (n := n) ?_ (by omega)
    unfold factorO at e
    split at e
    · split at e
      · cases e; exact ⟨h.k, h.which, by simp; omega, h.hd, h.wh⟩
      · cases e
    split at e
    · exact h.begun (by omega) e
    split at e
    · exact h.begun (by omega) e
    split at e
    · exact h.begun (by omega) e
    split at e
    · exact h.begun (by omega) e
    · cases e
  split at e
  · exact (h.behind e).mono (by omega)
  · unfold lineO at e
    split at e
    · cases e; exact (h.goes (by omega) (by omega)).mono (by omega)
    split at e
    · cases e; exact (h.goes (by omega) (by omega)).mono (by omega)
    split at e
    · cases e; exact ⟨Nat.zero_le _, Nat.zero_le _, Nat.zero_le _, by have := h.hd; simp [goS]; omega, by simp [goS]⟩
    · cases e; exact (h.goes (by omega) (by omega)).mono (by omega)

end Go.Proofs.Ytanknpmojblmcab
