/-
  RSpec RSpec2 MathA MathB MathC MathD MathQ MathR, put together.
-/
import Derived.Test.YtanknpmojblmcaaGreatDoorSpec
import Derived.Test.YtanknpmojblmcaaGreatDoorSpec3
import Derived.RowKit
/-
  Plain functions: the stations that a text goes through, as the document's answer has them.
-/
set_option linter.unusedSimpArgs false
set_option linter.unusedVariables false
namespace Go.Proofs.YtanknpmojblmcaaGreatDoor

structure ST where
  wh : Nat
  k : Nat
  which : Nat
  op : Nat
  no : Bool
  hd : Nat

def st0 : ST := ⟨0, 0, 0, 0, false, 0⟩
def pieceL : Nat → List UInt8
  | 0 => [32]
  | 1 => [32, 110, 111, 100, 101, 115, 61]
  | 2 => [32, 116, 105, 109, 101, 61]
  | 3 => [32, 97]
  | 4 => [114, 114, 97, 121, 61]
  | 5 => [45]
  | 6 => [32, 97, 102, 116, 101, 114, 61]
  | 7 => [102, 116, 101, 114, 61]
  | 8 => [111, 107, 58]
  | 9 => [97, 110, 121, 58]
  | 10 => [110, 111, 116, 58]
  | 11 => [115, 105, 110, 103, 108, 101]
  | 12 => [93]
  | _ => []
def litN : Nat → Nat × Nat
  | 0 => (4, 0)
  | 1 => (5, 0)
  | 2 => (5, 1)
  | 3 => (6, 0)
  | 4 => (5, 2)
  | 5 => (5, 3)
  | 6 => (7, 0)
  | 7 => (7, 0)
  | 8 => (8, 0)
  | 9 => (8, 0)
  | 10 => (8, 0)
  | _ => (9, 0)
def goS (st : ST) (wh which : Nat) : ST := { st with wh := wh, which := which, k := 0, no := false }
def litO (st : ST) (c : Nat) : Option ST :=
  if st.k < (pieceL st.which).length ∧ byt (pieceL st.which) st.k = c then
    if st.k + 1 < (pieceL st.which).length then some { st with k := st.k + 1 }
    else some (goS { st with k := st.k + 1 } (litN st.which).1 (litN st.which).2)
  else none
def begunO (st : ST) (which c : Nat) : Option ST := litO (goS st 3 which) c
def numberO (st : ST) (c : Nat) : Option ST :=
  if digB c = true ∧ (st.k = 0 ∨ (st.k = 1 ∧ st.no = false)) then some { st with no := c == 48, k := st.k + 1 }
  else if st.k = 0 then none
  else if st.which = 0 then begunO st 2 c
  else if st.which = 2 then begunO st 5 c
  else if st.which = 4 then begunO st 12 c
  else if c = 10 then some (goS st 0 0)
  else if st.which = 1 then begunO st 3 c
  else begunO st 6 c
def behindO (st : ST) (c : Nat) : Option ST :=
  if c = 38 ∨ c = 124 then some (goS st 7 0)
  else if c = 41 ∧ 0 < st.op then some (goS { st with op := st.op - 1 } 9 0)
  else if c = 10 ∧ st.op = 0 then some (goS st 0 0)
  else none
def nameO (st : ST) (c : Nat) : Option ST :=
  if letB c = true ∧ st.k < 6 then some { st with k := st.k + 1 }
  else if st.k = 0 then none
  else if st.wh = 4 then begunO st 1 c
  else if c = 91 then some (goS st 5 4)
  else behindO st c
def factorO (st : ST) (c : Nat) : Option ST :=
  if c = 40 then (if st.op + 1 ≤ 4 then some { st with op := st.op + 1 } else none)
  else if c = 111 then begunO st 8 c
  else if c = 97 then begunO st 9 c
  else if c = 110 then begunO st 10 c
  else if c = 115 then begunO st 11 c
  else none
def optionO (st : ST) (c : Nat) : Option ST := if c = 114 then begunO st 4 c else begunO st 7 c
def lineO (st : ST) (c : Nat) : Option ST :=
  if c = 10 then some (goS st 0 0)
  else if st.wh = 0 ∧ c = 35 then some (goS st 1 0)
  else if st.wh = 1 ∧ c = 74 then some (goS { st with hd := st.hd + 1, op := 0 } 3 0)
  else some (goS st 2 0)
def stepO (st : ST) (c : Nat) : Option ST :=
  if st.wh = 3 then litO st c
  else if st.wh = 4 ∨ st.wh = 8 then nameO st c
  else if st.wh = 5 then numberO st c
  else if st.wh = 6 then optionO st c
  else if st.wh = 7 then factorO st c
  else if st.wh = 9 then behindO st c
  else lineO st c
def wholeB (st : ST) : Bool :=
  if st.hd = 0 then false
  else if st.wh = 0 ∨ st.wh = 1 ∨ st.wh = 2 then true
  else if st.wh = 5 then decide (0 < st.k) && (decide (st.which = 1) || decide (st.which = 3))
  else if st.wh = 8 then decide (0 < st.k) && decide (st.op = 0)
  else if st.wh = 9 then decide (st.op = 0)
  else false
/-- The place of the error of what is left of a text; none: it is a batch. -/
def placeO (st : ST) : List UInt8 → Nat → Option Nat
  | [], i => if wholeB st then none else some i
  | c :: r, i => match stepO st c.toNat with
    | none => some i
    | some st' => placeO st' r (i + 1)

/-- The numbers of a station are small. -/
structure OKS (st : ST) (n : Nat) : Prop where
  k : st.k ≤ 10
  which : st.which ≤ 12
  op : st.op ≤ 4
  hd : st.hd ≤ n
  wh : st.wh ≤ 9

theorem pieceL_len (w : Nat) : (pieceL w).length ≤ 7 := by
  unfold pieceL; split <;> simp
theorem litN_le (w : Nat) : (litN w).1 ≤ 9 ∧ (litN w).2 ≤ 12 := by
  unfold litN; split <;> simp
theorem OKS.goes {st : ST} {n : Nat} (h : OKS st n) {a c : Nat} (ha : a ≤ 9) (hc : c ≤ 12) : OKS (goS st a c) n := ⟨Nat.zero_le _, hc, h.op, h.hd, ha⟩
theorem OKS.mono {st : ST} {n m : Nat} (h : OKS st n) (hm : n ≤ m) : OKS st m := ⟨h.k, h.which, h.op, Nat.le_trans h.hd hm, h.wh⟩
theorem OKS.lit {st st' : ST} {n c : Nat} (h : OKS st n) (e : litO st c = some st') : OKS st' n := by
  unfold litO at e
  have hl := pieceL_len st.which
  have hn := litN_le st.which
  split at e
  · split at e
    · cases e; exact ⟨by simp; omega, h.which, h.op, h.hd, h.wh⟩
    · cases e; exact ⟨Nat.zero_le _, hn.2, h.op, h.hd, hn.1⟩
  · cases e
theorem OKS.begun {st st' : ST} {n w c : Nat} (h : OKS st n) (hw : w ≤ 12) (e : begunO st w c = some st') : OKS st' n := (h.goes (by omega) hw).lit e
theorem OKS.behind {st st' : ST} {n c : Nat} (h : OKS st n) (e : behindO st c = some st') : OKS st' n := by
  unfold behindO at e
  split at e
  · cases e; exact h.goes (by omega) (by omega)
  split at e
  · cases e; exact ⟨Nat.zero_le _, Nat.zero_le _, by have := h.op; show st.op - 1 ≤ 4; omega, h.hd, by simp [goS]⟩
  split at e
  · cases e; exact h.goes (by omega) (by omega)
  · cases e
theorem OKS.step {st st' : ST} {n c : Nat} (h : OKS st n) (e : stepO st c = some st') : OKS st' (n + 1) := by
  unfold stepO at e
  split at e
  · exact (h.lit e).mono (by omega)
  split at e
  · refine OKS.mono (n := n) ?_ (by omega)
    unfold nameO at e
    split at e
    · cases e; exact ⟨by simp; omega, h.which, h.op, h.hd, h.wh⟩
    split at e
    · cases e
    split at e
    · exact h.begun (by omega) e
    split at e
    · cases e; exact h.goes (by omega) (by omega)
    · exact h.behind e
  split at e
  · refine OKS.mono (n := n) ?_ (by omega)
    unfold numberO at e
    split at e
    · cases e; exact ⟨by simp; omega, h.which, h.op, h.hd, h.wh⟩
    split at e
    · cases e
    split at e
    · exact h.begun (by omega) e
    split at e
    · exact h.begun (by omega) e
    split at e
    · exact h.begun (by omega) e
    split at e
    · cases e; exact h.goes (by omega) (by omega)
    split at e
    · exact h.begun (by omega) e
    · exact h.begun (by omega) e
  split at e
  · refine OKS.mono (n := n) ?_ (by omega)
    unfold optionO at e
    split at e
    · exact h.begun (by omega) e
    · exact h.begun (by omega) e
  split at e
  · refine OKS.mono (n := n) ?_ (by omega)
    unfold factorO at e
    split at e
    · split at e
      · cases e; exact ⟨h.k, h.which, by simp; omega, h.hd, h.wh⟩
      · cases e
    split at e
    · exact h.begun (by omega) e
    split at e
    · exact h.begun (by omega) e
    split at e
    · exact h.begun (by omega) e
    split at e
    · exact h.begun (by omega) e
    · cases e
  split at e
  · exact (h.behind e).mono (by omega)
  · unfold lineO at e
    split at e
    · cases e; exact (h.goes (by omega) (by omega)).mono (by omega)
    split at e
    · cases e; exact (h.goes (by omega) (by omega)).mono (by omega)
    split at e
    · cases e; exact ⟨Nat.zero_le _, Nat.zero_le _, Nat.zero_le _, by have := h.hd; simp [goS]; omega, by simp [goS]⟩
    · cases e; exact (h.goes (by omega) (by omega)).mono (by omega)

end Go.Proofs.YtanknpmojblmcaaGreatDoor

/-
  Plain functions: the document's answer: what is found in a line, brackets, plain forms.
-/
set_option linter.unusedSimpArgs false
set_option linter.unusedVariables false
namespace Go.Proofs.YtanknpmojblmcaaGreatDoor

/-- -1 for none. -/
def oi : Option Nat → Int
  | none => -1
  | some n => n
def pastI (L : List UInt8) : Nat → Nat → Nat
  | 0, i => i
  | n + 1, i => if letB (byt L i) then pastI L n (i + 1) else i
def behI (L key : List UInt8) : Nat → Nat → Option Nat
  | 0, _ => none
  | n + 1, i => if (cut L i (i + key.length) == key) = true then some (i + key.length) else behI L key n (i + 1)
/-- What stands behind the key in the line from a to b. -/
def behO (L : List UInt8) (a b : Nat) (key : List UInt8) : Option Nat := behI L key (b + 1 - key.length - a) a
def numR (L : List UInt8) : Nat → Nat → Int → Int
  | 0, _, n => n
  | f + 1, i, n => if digB (byt L i) then numR L f (i + 1) (Go.RowKit.wrap64 (Go.RowKit.wrap64 (10 * n) + ((byt L i : Int) - 48))) else n
def numI (L : List UInt8) : Option Nat → Int
  | none => 0
  | some i => numR L (L.length - i) i 0
def cloI (W : List UInt8) : Nat → Nat → Int → Nat
  | 0, _, _ => W.length - 1
  | f + 1, k, n => if byt W k = 40 then cloI W f (k + 1) (n + 1) else if byt W k = 41 then (if n - 1 = 0 then k else cloI W f (k + 1) (n - 1)) else cloI W f (k + 1) n
/-- The place at which the bracket at i is closed. -/
def clo (W : List UInt8) (i : Nat) : Nat := cloI W (W.length - i) i 0
def cutNI (W : List UInt8) (c : Nat) : Nat → Nat → Int → Nat → Nat
  | 0, _, _, m => m + 1
  | f + 1, k, n, m => if byt W k = 40 then cutNI W c f (k + 1) (n + 1) m else if byt W k = 41 then cutNI W c f (k + 1) (n - 1) m else if byt W k = c ∧ n = 0 then cutNI W c f (k + 1) n (m + 1) else cutNI W c f (k + 1) n m
/-- How many terms. -/
def cutN (W : List UInt8) (c : Nat) : Nat := cutNI W c W.length 0 0 0
def spareAt (W : List UInt8) (i : Nat) : Bool :=
  byt W i == 40 && ((!(decide (0 < i) && byt W (i - 1) == 38) && !(byt W (clo W i + 1) == 38)) || cutN (cut W (i + 1) (clo W i)) 124 == 1)
def spareI (W : List UInt8) : Nat → Nat → Option Nat
  | 0, _ => none
  | f + 1, i => if spareAt W i then some i else spareI W f (i + 1)
def spareO (W : List UInt8) : Option Nat := spareI W W.length 0
def without (W : List UInt8) (i k : Nat) : List UInt8 := W.take i ++ cut W (i + 1) k ++ W.drop (k + 1)
/-- The brackets of a want can be looked at. -/
def Bal (W : List UInt8) : Prop := ∀ i, byt W i = 40 → i < clo W i ∧ clo W i < W.length
def plainI : Nat → List UInt8 → List UInt8
  | 0, W => W
  | f + 1, W => match spareO W with
    | none => W
    | some i => plainI f (without W i (clo W i))
def PlainOK : Nat → List UInt8 → Prop
  | 0, W => Bal W ∧ spareO W = none
  | f + 1, W => Bal W ∧ ∀ i, spareO W = some i → PlainOK f (without W i (clo W i))

theorem cloI_le (W : List UInt8) (f : Nat) : ∀ (k : Nat) (n : Int), k + f ≤ W.length → cloI W f k n < W.length ∨ W.length = 0 := by
  induction f with
  | zero => intro k n h; unfold cloI; omega
  | succ f ih =>
    intro k n h
    unfold cloI
    split
    · exact ih (k + 1) _ (by omega)
    split
    · split
      · left; omega
      · exact ih (k + 1) _ (by omega)
    · exact ih (k + 1) _ (by omega)
theorem pastI_le (L : List UInt8) (n : Nat) : ∀ i, i ≤ pastI L n i ∧ pastI L n i ≤ i + n := by
  induction n with
  | zero => intro i; simp [pastI]
  | succ n ih =>
    intro i
    unfold pastI
    split
    · have := ih (i + 1); omega
    · omega
theorem behI_le (L key : List UInt8) (n : Nat) : ∀ i p, behI L key n i = some p → i + key.length ≤ p ∧ p + 1 ≤ i + key.length + n := by
  induction n with
  | zero => intro i p h; simp [behI] at h
  | succ n ih =>
    intro i p h
    unfold behI at h
    split at h
    · simp at h; omega
    · have := ih (i + 1) p h; omega

end Go.Proofs.YtanknpmojblmcaaGreatDoor

/-
  Plain mathematics: the reader of the program and the stations of the document's answer go together: words, names, numbers.
-/
set_option linter.unusedSimpArgs false
set_option linter.unusedVariables false
namespace Go.Proofs.YtanknpmojblmcaaGreatDoor

/-- The place of the error of what is left of a text from i on. -/
def pl (L : List UInt8) (st : ST) (i : Nat) : Option Nat := placeO st (L.drop i) i
theorem pl_step {L : List UInt8} {st st' : ST} {i : Nat} (h : i < L.length) (hs : stepO st (byt L i) = some st') : pl L st i = pl L st' (i + 1) := by
  unfold pl
  have hb : byt L i = L[i].toNat := by simp [byt, List.getD_eq_getElem?_getD, List.getElem?_eq_getElem h]
  rw [hb] at hs
  rw [List.drop_eq_getElem_cons h]
  conv => lhs; unfold placeO
  rw [hs]
theorem pl_none {L : List UInt8} {st : ST} {i : Nat} (h : i < L.length) (hs : stepO st (byt L i) = none) : pl L st i = some i := by
  unfold pl
  have hb : byt L i = L[i].toNat := by simp [byt, List.getD_eq_getElem?_getD, List.getElem?_eq_getElem h]
  rw [hb] at hs
  rw [List.drop_eq_getElem_cons h]
  unfold placeO
  rw [hs]
theorem pl_end {L : List UInt8} {st : ST} {i : Nat} (h : i = L.length) (hs : wholeB st = false) : pl L st i = some i := by
  unfold pl
  rw [List.drop_eq_nil_of_le (by omega), placeO, hs]; rfl
theorem pl_whole {L : List UInt8} {st : ST} {i : Nat} (h : i = L.length) (hs : wholeB st = true) : pl L st i = none := by
  unfold pl
  rw [List.drop_eq_nil_of_le (by omega), placeO, hs]; rfl
theorem pl_same {L : List UInt8} {st st' : ST} {i : Nat} (h : i < L.length) (hs : stepO st (byt L i) = stepO st' (byt L i)) : pl L st i = pl L st' i := by
  cases h' : stepO st' (byt L i) with
  | none => rw [pl_none h (hs.trans h'), pl_none h h']
  | some x => rw [pl_step h (hs.trans h'), pl_step h h']

/-- From the station st at i the reader came to s: it failed just there, or the stations go on from one of which P holds. -/
def Sim (L : List UInt8) (st : ST) (i : Nat) (s : Nat × Bool) (P : ST → Prop) : Prop :=
  (s.2 = true ∧ pl L st i = some s.1) ∨ (s.2 = false ∧ ∃ st', pl L st i = pl L st' s.1 ∧ P st')
theorem Sim.fail {L : List UInt8} {st : ST} {i j : Nat} {P : ST → Prop} (h : pl L st i = some j) : Sim L st i (j, true) P := Or.inl ⟨rfl, h⟩
theorem Sim.go {L : List UInt8} {st st' : ST} {i j : Nat} {P : ST → Prop} (h : pl L st i = pl L st' j) (hP : P st') : Sim L st i (j, false) P := Or.inr ⟨rfl, st', h, hP⟩
/-- One part behind the other: a reader that failed stays where it is. -/
theorem Sim.then {L : List UInt8} {st : ST} {i : Nat} {s : Nat × Bool} {P Q : ST → Prop} (h : Sim L st i s P) (F : Nat × Bool → Nat × Bool) (hF : ∀ j, F (j, true) = (j, true))
    (k : ∀ st', s.2 = false → P st' → Sim L st' s.1 (F (s.1, false)) Q) : Sim L st i (F s) Q := by
  obtain ⟨j, f⟩ := s
  rcases h with ⟨hf, hp⟩ | ⟨hf, st', hp, hP⟩
  · simp only at hf hp; subst hf; rw [hF]; exact Sim.fail hp
  · simp only at hf hp; subst hf
    rcases k st' rfl hP with ⟨a, b⟩ | ⟨a, st2, b, c⟩
    · exact Or.inl ⟨a, hp.trans b⟩
    · exact Or.inr ⟨a, st2, hp.trans b, c⟩
theorem Sim.mono {L : List UInt8} {st : ST} {i : Nat} {s : Nat × Bool} {P Q : ST → Prop} (h : Sim L st i s P) (k : ∀ st', s.2 = false → P st' → Q st') : Sim L st i s Q := by
  rcases h with h | ⟨a, st', b, c⟩
  · exact Or.inl h
  · exact Or.inr ⟨a, st', b, k st' a c⟩
theorem Sim.from {L : List UInt8} {st st' : ST} {i : Nat} {s : Nat × Bool} {P : ST → Prop} (e : pl L st i = pl L st' i) (h : Sim L st' i s P) : Sim L st i s P := by
  rcases h with ⟨a, b⟩ | ⟨a, x, b, c⟩
  · exact Or.inl ⟨a, e.trans b⟩
  · exact Or.inr ⟨a, x, e.trans b, c⟩

theorem Sim.from' {L : List UInt8} {st st' : ST} {i j : Nat} {s : Nat × Bool} {P : ST → Prop} (e : pl L st i = pl L st' j) (h : Sim L st' j s P) : Sim L st i s P := by
  rcases h with ⟨a, b⟩ | ⟨a, x, b, c⟩
  · exact Or.inl ⟨a, e.trans b⟩
  · exact Or.inr ⟨a, x, e.trans b, c⟩
theorem Sim.then' {L : List UInt8} {st : ST} {i : Nat} {s : Nat × Bool} {P : ST → Prop} (h : Sim L st i s P) (F : Nat × Bool → Nat × Bool) (hF : ∀ j, F (j, true) = (j, true)) (Q : ST → Nat × Bool → Prop)
    (k : ∀ st', s.2 = false → P st' → Sim L st' s.1 (F (s.1, false)) (fun st' => Q st' (F (s.1, false)))) : Sim L st i (F s) (fun st' => Q st' (F s)) := by
  obtain ⟨j, f⟩ := s
  rcases h with ⟨hf, hp⟩ | ⟨hf, st', hp, hP⟩
  · simp only at hf hp; subst hf; rw [hF]; exact Sim.fail hp
  · simp only at hf hp; subst hf
    exact Sim.from' hp (k st' rfl hP)
theorem pk_40' {c : Nat} {L : List UInt8} {s : Nat × Bool} (h : pk L s = c) (h0 : c ≠ 0) : s.2 = false ∧ s.1 < L.length := by
  unfold pk at h
  split at h
  · omega
  · rename_i hf; exact ⟨by simpa using hf, byt_in (by omega)⟩

theorem wd_fail (L W : List UInt8) (j : Nat) : wd L W (j, true) = (j, true) := by
  cases W with
  | nil => rfl
  | cons c r => simp [wd, sk]
theorem nmS_fail (L : List UInt8) (j : Nat) : nmS L (j, true) = (j, true) := by simp [nmS]
theorem numS_fail (L : List UInt8) (j : Nat) : numS L (j, true) = (j, true) := by simp [numS, pk, digB]

/-- The station behind m bytes more of its piece. -/
def litTo (st : ST) (m : Nat) : ST :=
  if st.k + m < (pieceL st.which).length then { st with k := st.k + m } else goS st (litN st.which).1 (litN st.which).2
theorem litO_yes {st : ST} {c : Nat} (h : st.k < (pieceL st.which).length) (hc : byt (pieceL st.which) st.k = c) : litO st c = some (litTo st 1) := by
  unfold litO litTo
  rw [if_pos ⟨h, hc⟩]
  split <;> rfl
theorem litO_no {st : ST} {c : Nat} (hc : byt (pieceL st.which) st.k ≠ c) : litO st c = none := by
  unfold litO; rw [if_neg (by intro q; exact hc q.2)]
theorem step_lit {st : ST} {c : Nat} (h : st.wh = 3) : stepO st c = litO st c := by unfold stepO; rw [if_pos h]
theorem byt_drop {W : List UInt8} {k : Nat} {c : UInt8} {r : List UInt8} (h : W.drop k = c :: r) : k < W.length ∧ byt W k = c.toNat ∧ W.drop (k + 1) = r := by
  have hk : k < W.length := by
    apply Classical.byContradiction; intro q
    rw [List.drop_eq_nil_of_le (by omega)] at h; cases h
  rw [List.drop_eq_getElem_cons hk] at h
  injection h with h1 h2
  exact ⟨hk, by simp [byt, List.getD_eq_getElem?_getD, List.getElem?_eq_getElem hk, h1], h2⟩

/-- A word that is the rest of a piece, or begins it. -/
theorem sim_lit (L : List UInt8) (W : List UInt8) : ∀ (c : UInt8) (R : List UInt8) (st : ST) (i : Nat), st.wh = 3 → i ≤ L.length → (pieceL st.which).drop st.k = c :: (W ++ R) →
    Sim L st i (wd L (c :: W) (i, false)) (fun st' => st' = litTo st (W.length + 1)) := by
  induction W with
  | nil =>
    intro c R st i hw hi hd
    obtain ⟨h1, h2, h3⟩ := byt_drop hd
    by_cases hs : sk L c.toNat (i, false) = true
    · have hk := sk_lt hs
      have hst := pl_step (st := st) hk.1 (by rw [step_lit hw]; exact litO_yes h1 (h2.trans hk.2.2.symm))
      have e : wd L [c] (i, false) = (i + 1, false) := by simp [wd, hs]
      rw [e]; exact Sim.go hst rfl
    · have e : wd L [c] (i, false) = (i, true) := by simp [wd, hs]
      rw [e]
      refine Sim.fail ?_
      by_cases hl : i < L.length
      · exact pl_none hl (by rw [step_lit hw]; exact litO_no (by rw [h2]; intro q; apply hs; simp [sk, hl, q]))
      · exact pl_end (by omega) (by unfold wholeB; simp [hw])
  | cons d W ih =>
    intro c R st i hw hi hd
    obtain ⟨h1, h2, h3⟩ := byt_drop hd
    by_cases hs : sk L c.toNat (i, false) = true
    · have hk := sk_lt hs
      have hlen : st.k + 1 < (pieceL st.which).length := by
        have := congrArg List.length h3; simp at this; omega
      have ht : litTo st 1 = { st with k := st.k + 1 } := by unfold litTo; rw [if_pos hlen]
      have hst := pl_step (st := st) hk.1 (by rw [step_lit hw]; exact litO_yes h1 (h2.trans hk.2.2.symm))
      rw [ht] at hst
      have e : wd L (c :: d :: W) (i, false) = wd L (d :: W) (i + 1, false) := by conv => lhs; unfold wd; rw [if_pos hs]
      rw [e]
      have := ih d R { st with k := st.k + 1 } (i + 1) hw (by have := hk.1; simp at this; omega) h3
      rcases this with ⟨a, b⟩ | ⟨a, x, b, cc⟩
      · exact Or.inl ⟨a, hst.trans b⟩
      · refine Or.inr ⟨a, x, hst.trans b, ?_⟩
        rw [cc]
        unfold litTo
        simp only [List.length_cons]
        rw [show st.k + 1 + (W.length + 1) = st.k + (W.length + 1 + 1) from by omega]
        split <;> rfl
    · have e : wd L (c :: d :: W) (i, false) = (i, true) := by conv => lhs; unfold wd; rw [if_neg hs]
      rw [e]
      refine Sim.fail ?_
      by_cases hl : i < L.length
      · exact pl_none hl (by rw [step_lit hw]; exact litO_no (by rw [h2]; intro q; apply hs; simp [sk, hl, q]))
      · exact pl_end (by omega) (by unfold wholeB; simp [hw])

/-- A piece that begins at a station which tells it by its first byte. -/
theorem sim_begun {L : List UInt8} {st : ST} {i w : Nat} {c : UInt8} {W R : List UInt8} (hi : i ≤ L.length) (hp : pieceL w = c :: (W ++ R))
    (hst : i < L.length → stepO st (byt L i) = begunO st w (byt L i)) (hwh : i = L.length → wholeB st = false) :
    Sim L st i (wd L (c :: W) (i, false)) (fun st' => st' = litTo (goS st 3 w) (W.length + 1)) := by
  by_cases hl : i < L.length
  · refine Sim.from (st' := goS st 3 w) (pl_same hl ?_) (sim_lit L W c R (goS st 3 w) i rfl hi (by simpa [goS] using hp))
    rw [hst hl, step_lit rfl]; rfl
  · have e : wd L (c :: W) (i, false) = (i, true) := by simp [wd, sk, hl]
    rw [e]; exact Sim.fail (pl_end (by omega) (hwh (by omega)))

/-- A name: it stands at station 4 or 8. -/
theorem sim_name (L : List UInt8) (n : Nat) : ∀ (st : ST) (i : Nat), (st.wh = 4 ∨ st.wh = 8) → st.k + n = 6 → i ≤ L.length →
    pl L st i = pl L { st with k := st.k + lets L n i } (i + lets L n i) ∧ (st.k + lets L n i < 6 → letB (byt L (i + lets L n i)) = false) := by
  induction n with
  | zero => intro st i hw hk hi; exact ⟨by simp [lets], by simp [lets]; omega⟩
  | succ n ih =>
    intro st i hw hk hi
    cases hb : letB (byt L i) with
    | false =>
      have e : lets L (n + 1) i = 0 := by simp [lets, hb]
      rw [e]
      exact ⟨rfl, fun _ => hb⟩
    | true =>
      have hl : i < L.length := byt_in (by intro e; rw [e] at hb; simp [letB] at hb)
      have e : lets L (n + 1) i = lets L n (i + 1) + 1 := by simp [lets, hb]
      have hst : stepO st (byt L i) = some { st with k := st.k + 1 } := by
        unfold stepO
        rw [if_neg (by omega), if_pos hw]
        unfold nameO
        rw [if_pos ⟨hb, by omega⟩]
      obtain ⟨h1, h2⟩ := ih { st with k := st.k + 1 } (i + 1) hw (by simp; omega) hl
      rw [e]
      refine ⟨?_, ?_⟩
      · rw [pl_step hl hst, h1]
        simp only [show st.k + 1 + lets L n (i + 1) = st.k + (lets L n (i + 1) + 1) from by omega, show i + 1 + lets L n (i + 1) = i + (lets L n (i + 1) + 1) from by omega]
      · intro h3
        rw [show i + (lets L n (i + 1) + 1) = i + 1 + lets L n (i + 1) from by omega]
        exact h2 (by simp; omega)

/-- Behind a name: no letter more. -/
def NameEnd (L : List UInt8) (st : ST) (i : Nat) : Prop := 1 ≤ st.k ∧ st.k ≤ 6 ∧ (st.k < 6 → letB (byt L i) = false)
theorem sim_nm {L : List UInt8} {st : ST} {i : Nat} (hw : st.wh = 4 ∨ st.wh = 8) (hk : st.k = 0) (hi : i ≤ L.length) :
    Sim L st i (nmS L (i, false)) (fun st' => st' = { st with k := lets L 6 i } ∧ NameEnd L st' (i + lets L 6 i)) := by
  obtain ⟨h1, h2⟩ := sim_name L 6 st i hw (by omega) hi
  rw [hk] at h1 h2
  have hle := lets_goes L 6 i hi
  have hn : nmS L (i, false) = (i + lets L 6 i, lets L 6 i == 0) := by simp [nmS]
  have h6 : ∀ n i, lets L n i ≤ n := by
    intro n; induction n with
    | zero => intro i; simp [lets]
    | succ n ih =>
      intro i; unfold lets
      split
      · have := ih (i + 1); omega
      · omega
  have h6' := h6 6 i
  rw [hn]
  by_cases h0 : lets L 6 i = 0
  · rw [h0]
    refine Sim.fail ?_
    simp only [Nat.add_zero]
    rw [h0] at h2
    by_cases hl : i < L.length
    · refine pl_none hl ?_
      have hb : letB (byt L i) = false := by simpa using h2 (by omega)
      unfold stepO
      rw [if_neg (by omega), if_pos hw]
      unfold nameO
      rw [if_neg (by simp [hb]), if_pos hk]
    · refine pl_end (by omega) ?_
      unfold wholeB
      rcases hw with hw | hw <;> simp [hw, hk]
  · have e : (lets L 6 i == 0) = false := by simpa using h0
    rw [e]
    refine Sim.go (st' := { st with k := lets L 6 i }) (by simpa using h1) ⟨rfl, by simp; omega, h6', ?_⟩
    intro h; simpa using h2 (by simpa using h)

/-- Behind a number: no digit more. -/
def NumEnd (L : List UInt8) (st : ST) (i : Nat) : Prop := 1 ≤ st.k ∧ ¬ (digB (byt L i) = true ∧ st.k = 1 ∧ st.no = false)
theorem sim_num {L : List UInt8} {st : ST} {i : Nat} (hw : st.wh = 5) (hk : st.k = 0) (hi : i ≤ L.length) :
    Sim L st i (numS L (i, false)) (fun st' => (∃ k no, st' = { st with k := k, no := no }) ∧ NumEnd L st' (numS L (i, false)).1) := by
  have hp : ∀ j, pk L (j, false) = byt L j := by intro j; simp [pk]
  have stp : ∀ (s : ST) (c : Nat), s.wh = 5 → stepO s c = numberO s c := by
    intro s c h; unfold stepO; rw [if_neg (by omega), if_neg (by omega), if_pos h]
  cases hd : digB (byt L i) with
  | false =>
    have e : numS L (i, false) = (i, true) := by simp [numS, hp, hd]
    rw [e]
    refine Sim.fail ?_
    by_cases hl : i < L.length
    · refine pl_none hl ?_
      rw [stp st _ hw]; unfold numberO
      rw [if_neg (by simp [hd]), if_pos hk]
    · exact pl_end (by omega) (by unfold wholeB; simp [hw, hk])
  | true =>
    have hl : i < L.length := byt_in (by intro e; rw [e] at hd; simp [digB] at hd)
    have h1 : pl L st i = pl L { st with no := byt L i == 48, k := 1 } (i + 1) := by
      refine pl_step hl ?_
      rw [stp st _ hw]; unfold numberO
      rw [if_pos ⟨hd, Or.inl hk⟩, hk]
    by_cases h2 : byt L i = 48 ∨ digB (byt L (i + 1)) = false
    · have e : numS L (i, false) = (i + 1, false) := by
        unfold numS; rw [hp, if_pos hd, hp, if_pos (by rcases h2 with h2 | h2 <;> simp [h2])]
      rw [e]
      refine Sim.go h1 ⟨⟨1, byt L i == 48, rfl⟩, by simp, ?_⟩
      rintro ⟨q1, q2, q3⟩
      rcases h2 with h2 | h2
      · simp [h2] at q3
      · simp only at q1; rw [h2] at q1; cases q1
    · have h3 : byt L i ≠ 48 := fun q => h2 (Or.inl q)
      have h4 : digB (byt L (i + 1)) = true := by cases q : digB (byt L (i + 1)) with
        | true => rfl
        | false => exact absurd (Or.inr q) h2
      have hl2 : i + 1 < L.length := byt_in (by intro e; rw [e] at h4; simp [digB] at h4)
      have e : numS L (i, false) = (i + 2, false) := by
        unfold numS; rw [hp, if_pos hd, hp, if_neg (by simp [h3, h4])]
      rw [e]
      have h5 : pl L { st with no := byt L i == 48, k := 1 } (i + 1) = pl L { st with no := byt L (i + 1) == 48, k := 2 } (i + 2) := by
        refine pl_step hl2 ?_
        rw [stp { st with no := byt L i == 48, k := 1 } _ hw]; unfold numberO
        rw [if_pos ⟨h4, Or.inr ⟨rfl, by simp [h3]⟩⟩]
      exact Sim.go (h1.trans h5) ⟨⟨2, _, rfl⟩, by simp, by simp⟩

end Go.Proofs.YtanknpmojblmcaaGreatDoor

/-
  Plain mathematics: the reader of the program and the stations of the document's answer go together: references, factors, terms, wants.
-/
set_option linter.unusedSimpArgs false
set_option linter.unusedVariables false
namespace Go.Proofs.YtanknpmojblmcaaGreatDoor

/-- Behind a factor, with d brackets open, in the h-th head. -/
def FacEnd (L : List UInt8) (d h : Nat) (st : ST) (i : Nat) : Prop :=
  st.op = d ∧ st.hd = h ∧ (st.wh = 9 ∨ (st.wh = 8 ∧ NameEnd L st i ∧ byt L i ≠ 91))
theorem FacEnd.step {L : List UInt8} {d h : Nat} {st : ST} {i : Nat} (q : FacEnd L d h st i) : stepO st (byt L i) = behindO st (byt L i) := by
  obtain ⟨h1, h2, h3 | ⟨h3, h4, h5⟩⟩ := q
  · unfold stepO; simp [h3]
  · unfold stepO
    rw [if_neg (by omega), if_pos (Or.inr h3)]
    unfold nameO
    obtain ⟨a, b, c⟩ := h4
    rw [if_neg (by rintro ⟨x, y⟩; rw [c y] at x; cases x), if_neg (by omega), if_neg (by omega), if_neg h5]
theorem FacEnd.whole {L : List UInt8} {d h : Nat} {st : ST} {i : Nat} (q : FacEnd L d h st i) (hh : h ≠ 0) : wholeB st = decide (d = 0) := by
  obtain ⟨h1, h2, h3 | ⟨h3, h4, h5⟩⟩ := q
  · unfold wholeB; simp [h2, hh, h3, h1]
  · have := h4.1
    unfold wholeB; simp [h2, hh, h3, h1]; omega

theorem sk_byt {L : List UInt8} {c j : Nat} (h : sk L c (j, false) = false) (hl : j < L.length) : byt L j ≠ c := by
  intro e; simp [sk, hl, e] at h

theorem sim_ref {L : List UInt8} {st : ST} {i d h : Nat} (hw : st.wh = 8) (hk : st.k = 0) (ho : st.op = d) (hh : st.hd = h) (hi : i ≤ L.length) :
    Sim L st i (refS L (i, false)) (fun st' => FacEnd L d h st' (refS L (i, false)).1) := by
  have hg := nmS_goes L (i, false) hi
  have h1 := sim_nm (L := L) (st := st) (i := i) (Or.inr hw) hk hi
  have e : refS L (i, false) = (fun s => if sk L 91 s then wd L [93] (numS L (s.1 + 1, s.2)) else s) (nmS L (i, false)) := rfl
  rw [e]
  refine h1.then (fun s => if sk L 91 s then wd L [93] (numS L (s.1 + 1, s.2)) else s) (by intro j; simp [sk]) ?_
  rintro st1 hf ⟨rfl, hn⟩
  have es : nmS L (i, false) = (i + lets L 6 i, false) := by
    have e1 : nmS L (i, false) = (i + lets L 6 i, lets L 6 i == 0) := by simp [nmS]
    rw [e1] at hf ⊢
    simp only at hf; rw [hf]
  rw [es]
  simp only
  generalize lets L 6 i = m at *
  cases hs : sk L 91 (i + m, false) with
  | false =>
    rw [if_neg (by decide)]
    refine Sim.go rfl ⟨ho, hh, Or.inr ⟨hw, hn, ?_⟩⟩
    by_cases hl : i + m < L.length
    · exact sk_byt hs hl
    · show byt L (i + m) ≠ 91
      rw [byt_out (by omega)]; decide
  | true =>
    rw [if_pos rfl]
    have hk2 := sk_lt hs
    have hl : i + m < L.length := hk2.1
    have hst : stepO { st with k := m } (byt L (i + m)) = some (goS { st with k := m } 5 4) := by
      have hb : byt L (i + m) = 91 := hk2.2.2
      unfold stepO
      rw [if_neg (by simp [hw]), if_pos (Or.inr hw)]
      unfold nameO
      have := hn.1
      rw [hb, if_neg (by simp [letB]), if_neg (by show m ≠ 0; simp at this; omega), if_neg (by simp [hw]), if_pos rfl]
    have hpl := pl_step hl hst
    have h2 := sim_num (L := L) (st := goS { st with k := m } 5 4) (i := i + m + 1) rfl rfl (by omega)
    have hg2 := numS_goes L (i + m + 1, false) (by show i + m + 1 ≤ _; omega)
    have key : Sim L (goS { st with k := m } 5 4) (i + m + 1) (wd L [93] (numS L (i + m + 1, false))) (fun st' => FacEnd L d h st' (wd L [93] (numS L (i + m + 1, false))).1) := by
      refine h2.then (wd L [93]) (wd_fail L [93]) ?_
      rintro st2 hf2 ⟨⟨k, no, rfl⟩, hne⟩
      have es2 : numS L (i + m + 1, false) = ((numS L (i + m + 1, false)).1, false) := Prod.ext rfl hf2
      rw [es2]
      have hle := hg2.2
      generalize (numS L (i + m + 1, false)).1 = j at *
      have h3 := sim_begun (L := L) (st := { goS { st with k := m } 5 4 with k := k, no := no }) (i := j) (w := 12) (c := 93) (W := []) (R := []) hle rfl
        (by
          intro hl2
          unfold stepO
          rw [if_neg (by simp [goS]), if_neg (by simp [goS]), if_pos (by simp [goS])]
          unfold numberO
          have hk1 : 1 ≤ k := hne.1
          rw [if_neg (by
            rintro ⟨a, b | ⟨b, c⟩⟩
            · simp at b; omega
            · exact hne.2 ⟨a, b, c⟩), if_neg (by show k ≠ 0; omega), if_neg (by simp [goS]), if_neg (by simp [goS]), if_pos (by simp [goS])])
        (by intro _; unfold wholeB; simp [goS])
      refine h3.mono ?_
      rintro st3 hf3 rfl
      exact ⟨ho, hh, Or.inl rfl⟩
    rcases key with ⟨a, b⟩ | ⟨a, x, b, c⟩
    · exact Or.inl ⟨a, hpl.trans b⟩
    · exact Or.inr ⟨a, x, hpl.trans b, c⟩

theorem refS_fail (L : List UInt8) (j : Nat) : refS L (j, true) = (j, true) := by simp [refS, nmS, sk]
theorem leafS_fail (L : List UInt8) (j : Nat) : leafS L (j, true) = (j, true) := by simp [leafS, pk]

theorem sim_leaf {L : List UInt8} {st : ST} {i d h : Nat} (hw : st.wh = 7) (ho : st.op = d) (hh : st.hd = h) (hi : i ≤ L.length) (h40 : pk L (i, false) ≠ 40) :
    Sim L st i (leafS L (i, false)) (fun st' => FacEnd L d h st' (leafS L (i, false)).1) := by
  have hp : pk L (i, false) = byt L i := by simp [pk]
  rw [hp] at h40
  have stp : ∀ c, stepO st c = factorO st c := by intro c; unfold stepO; simp [hw]
  have wh7 : i = L.length → wholeB st = false := by intro _; unfold wholeB; simp [hw]
  unfold leafS
  rw [hp]
  by_cases h1 : byt L i = 115
  · rw [if_pos h1]
    refine (sim_begun (w := 11) (c := 115) (W := [105, 110, 103, 108, 101]) (R := []) hi rfl (by intro _; rw [stp, h1]; rfl) wh7).mono ?_
    rintro st1 hf rfl
    exact ⟨ho, hh, Or.inl rfl⟩
  rw [if_neg h1]
  by_cases h2 : byt L i = 111
  · rw [if_pos h2]
    have a := sim_begun (L := L) (st := st) (w := 8) (c := 111) (W := [107, 58]) (R := []) hi rfl (by intro _; rw [stp, h2]; rfl) wh7
    have hg := wd_goes L [111, 107, 58] (i, false) hi
    refine a.then (refS L) (refS_fail L) ?_
    rintro st1 hf rfl
    have es : wd L [111, 107, 58] (i, false) = ((wd L [111, 107, 58] (i, false)).1, false) := Prod.ext rfl hf
    rw [es]
    exact sim_ref rfl rfl ho hh hg.2
  rw [if_neg h2]
  by_cases h3 : byt L i = 97
  · rw [if_pos h3]
    have a := sim_begun (L := L) (st := st) (w := 9) (c := 97) (W := [110, 121, 58]) (R := []) hi rfl (by intro _; rw [stp, h3]; rfl) wh7
    have hg := wd_goes L [97, 110, 121, 58] (i, false) hi
    refine a.then (refS L) (refS_fail L) ?_
    rintro st1 hf rfl
    have es : wd L [97, 110, 121, 58] (i, false) = ((wd L [97, 110, 121, 58] (i, false)).1, false) := Prod.ext rfl hf
    rw [es]
    exact sim_ref rfl rfl ho hh hg.2
  rw [if_neg h3]
  by_cases h4 : byt L i = 110
  · rw [if_pos h4]
    have a := sim_begun (L := L) (st := st) (w := 10) (c := 110) (W := [111, 116, 58]) (R := []) hi rfl (by intro _; rw [stp, h4]; rfl) wh7
    have hg := wd_goes L [110, 111, 116, 58] (i, false) hi
    refine a.then (refS L) (refS_fail L) ?_
    rintro st1 hf rfl
    have es : wd L [110, 111, 116, 58] (i, false) = ((wd L [110, 111, 116, 58] (i, false)).1, false) := Prod.ext rfl hf
    rw [es]
    exact sim_ref rfl rfl ho hh hg.2
  rw [if_neg h4]
  refine Sim.fail ?_
  by_cases hl : i < L.length
  · refine pl_none hl ?_
    rw [stp]; unfold factorO
    rw [if_neg h40, if_neg h2, if_neg h3, if_neg h4, if_neg h1]
  · exact pl_end (by omega) (wh7 (by omega))

/-- What a part of a want does, as seen by the stations. -/
def PSim (L : List UInt8) (d h : Nat) (F : Nat × Bool → (List UInt8 × Nat) × (Nat × Bool)) : Prop :=
  ∀ (st : ST) (i : Nat), st.wh = 7 → st.op = d → st.hd = h → i ≤ L.length → Sim L st i (F (i, false)).2 (fun st' => FacEnd L d h st' (F (i, false)).2.1)
def FFail (F : Nat × Bool → (List UInt8 × Nat) × (Nat × Bool)) : Prop := ∀ j, (F (j, true)).2 = (j, true)

theorem step_amp {L : List UInt8} {d h j c : Nat} {st : ST} (q : FacEnd L d h st j) (hl : j < L.length) (hb : byt L j = c) (hc : c = 38 ∨ c = 124) : pl L st j = pl L (goS st 7 0) (j + 1) := by
  refine pl_step hl ?_
  rw [q.step, hb]
  unfold behindO
  rw [if_pos hc]

theorem sim_termL {L : List UInt8} {d h : Nat} {F : Nat × Bool → (List UInt8 × Nat) × (Nat × Bool)} (hF : PSim L d h F) (hff : FFail F) (hg : GoodF L F) (n : Nat) :
    ∀ (st : ST) (j : Nat) (t : List UInt8), j ≤ L.length → L.length - j ≤ n → FacEnd L d h st j → Sim L st j (termL L F n (j, false) t).2 (fun st' => FacEnd L d h st' (termL L F n (j, false) t).2.1 ∧ sk L 38 (termL L F n (j, false) t).2 = false) := by
  induction n with
  | zero =>
    intro st j t hj hn q
    have e : termL L F 0 (j, false) t = (t, (j, false)) := rfl
    rw [e]
    exact Sim.go rfl ⟨q, by simp [sk]; omega⟩
  | succ n ih =>
    intro st j t hj hn q
    cases hs : sk L 38 (j, false) with
    | false =>
      have e : termL L F (n + 1) (j, false) t = (t, (j, false)) := by simp [termL, hs]
      rw [e]
      exact Sim.go rfl ⟨q, hs⟩
    | true =>
      have hk := sk_lt hs
      have hl : j < L.length := hk.1
      have e : termL L F (n + 1) (j, false) t = termL L F n (F (j + 1, false)).2 (t ++ 38 :: asF (F (j + 1, false)).1) := by simp [termL, hs]
      have hgo := hg (j + 1, false) hl
      have h1 := hF (goS st 7 0) (j + 1) rfl q.1 q.2.1 hl
      have hpl := step_amp q hl hk.2.2 (Or.inl rfl)
      rw [e]
      generalize t ++ 38 :: asF (F (j + 1, false)).1 = t2
      generalize (F (j + 1, false)).2 = s at *
      obtain ⟨j2, f2⟩ := s
      rcases h1 with ⟨a, b⟩ | ⟨a, st2, b, c⟩
      · simp only at a b; subst a
        have e2 : (termL L F n (j2, true) t2).2 = (j2, true) := by cases n <;> simp [termL, sk]
        rw [e2]; exact Sim.fail (hpl.trans b)
      · simp only at a b c; subst a
        have hle : j2 ≤ L.length := hgo.1.2
        have hge : j + 1 ≤ j2 := hgo.1.1
        rcases ih st2 j2 t2 hle (by omega) c with ⟨x, y⟩ | ⟨x, st3, y, z⟩
        · exact Or.inl ⟨x, (hpl.trans b).trans y⟩
        · exact Or.inr ⟨x, st3, (hpl.trans b).trans y, z⟩

theorem termF_fail {L : List UInt8} {F : Nat × Bool → (List UInt8 × Nat) × (Nat × Bool)} (hff : FFail F) : FFail (termF L F) := by
  intro j; unfold termF; rw [hff j]; simp [pk, hff j]

theorem sim_termF {L : List UInt8} {d h : Nat} {F : Nat × Bool → (List UInt8 × Nat) × (Nat × Bool)} (hF : PSim L d h F) (hff : FFail F) (hg : GoodF L F) :
    ∀ (st : ST) (i : Nat), st.wh = 7 → st.op = d → st.hd = h → i ≤ L.length → Sim L st i (termF L F (i, false)).2 (fun st' => FacEnd L d h st' (termF L F (i, false)).2.1 ∧ sk L 38 (termF L F (i, false)).2 = false) := by
  intro st i hw ho hh hi
  have h1 := hF st i hw ho hh hi
  have hgo := hg (i, false) hi
  unfold termF
  by_cases h38 : pk L (F (i, false)).2 = 38
  · rw [if_pos h38]
    simp only
    generalize asF (F (i, false)).1 = t
    generalize (F (i, false)).2 = s at *
    obtain ⟨j, f⟩ := s
    rcases h1 with ⟨a, b⟩ | ⟨a, st2, b, c⟩
    · simp only at a; subst a; simp [pk] at h38
    · simp only at a b c; subst a
      rcases sim_termL hF hff hg L.length st2 j t hgo.1.2 (by omega) c with ⟨x, y⟩ | ⟨x, st3, y, z⟩
      · exact Or.inl ⟨x, b.trans y⟩
      · exact Or.inr ⟨x, st3, b.trans y, z⟩
  · rw [if_neg h38]
    refine h1.mono ?_
    intro st' hf q
    refine ⟨q, ?_⟩
    generalize (F (i, false)).2 = s at *
    obtain ⟨j, f⟩ := s
    simp only at hf; subst hf
    cases hs : sk L 38 (j, false) with
    | false => rfl
    | true => have := sk_lt hs; exfalso; apply h38; simp [pk, this.2.2]

theorem sim_wantL {L : List UInt8} {d h : Nat} {F : Nat × Bool → (List UInt8 × Nat) × (Nat × Bool)} (hF : PSim L d h F) (hff : FFail F) (hg : GoodF L F) (n : Nat) :
    ∀ (st : ST) (j : Nat) (p : List UInt8 × Nat), j ≤ L.length → L.length - j ≤ n → FacEnd L d h st j → sk L 38 (j, false) = false → Sim L st j (wantL L F n (j, false) p).2 (fun st' => FacEnd L d h st' (wantL L F n (j, false) p).2.1 ∧ sk L 38 (wantL L F n (j, false) p).2 = false ∧ sk L 124 (wantL L F n (j, false) p).2 = false) := by
  induction n with
  | zero =>
    intro st j p hj hn q h38
    have e : wantL L F 0 (j, false) p = (p, (j, false)) := rfl
    rw [e]
    exact Sim.go rfl ⟨q, h38, by simp [sk]; omega⟩
  | succ n ih =>
    intro st j p hj hn q h38
    cases hs : sk L 124 (j, false) with
    | false =>
      have e : wantL L F (n + 1) (j, false) p = (p, (j, false)) := by simp [wantL, hs]
      rw [e]
      exact Sim.go rfl ⟨q, h38, hs⟩
    | true =>
      have hk := sk_lt hs
      have hl : j < L.length := hk.1
      have e : wantL L F (n + 1) (j, false) p = wantL L F n (termF L F (j + 1, false)).2 (p.1 ++ 124 :: (termF L F (j + 1, false)).1.1, p.2 + (termF L F (j + 1, false)).1.2) := by simp [wantL, hs]
      have hgo := termF_good hg (j + 1, false) hl
      have h1 := sim_termF hF hff hg (goS st 7 0) (j + 1) rfl q.1 q.2.1 hl
      have hpl := step_amp q hl hk.2.2 (Or.inr rfl)
      rw [e]
      generalize (p.1 ++ 124 :: (termF L F (j + 1, false)).1.1, p.2 + (termF L F (j + 1, false)).1.2) = p2
      generalize (termF L F (j + 1, false)).2 = s at *
      obtain ⟨j2, f2⟩ := s
      rcases h1 with ⟨a, b⟩ | ⟨a, st2, b, c, c2⟩
      · simp only at a b; subst a
        have e2 : (wantL L F n (j2, true) p2).2 = (j2, true) := by cases n <;> simp [wantL, sk]
        rw [e2]; exact Sim.fail (hpl.trans b)
      · simp only at a b c; subst a
        have hle : j2 ≤ L.length := hgo.1.2
        have hge : j + 1 ≤ j2 := hgo.1.1
        rcases ih st2 j2 p2 hle (by omega) c c2 with ⟨x, y⟩ | ⟨x, st3, y, z⟩
        · exact Or.inl ⟨x, (hpl.trans b).trans y⟩
        · exact Or.inr ⟨x, st3, (hpl.trans b).trans y, z⟩

theorem wantF_fail {L : List UInt8} {F : Nat × Bool → (List UInt8 × Nat) × (Nat × Bool)} (hff : FFail F) : FFail (wantF L F) := by
  intro j; unfold wantF; rw [termF_fail hff j]
  cases L.length <;> simp [wantL, sk]

theorem sim_wantF {L : List UInt8} {d h : Nat} {F : Nat × Bool → (List UInt8 × Nat) × (Nat × Bool)} (hF : PSim L d h F) (hff : FFail F) (hg : GoodF L F) :
    ∀ (st : ST) (i : Nat), st.wh = 7 → st.op = d → st.hd = h → i ≤ L.length → Sim L st i (wantF L F (i, false)).2 (fun st' => FacEnd L d h st' (wantF L F (i, false)).2.1 ∧ sk L 38 (wantF L F (i, false)).2 = false ∧ sk L 124 (wantF L F (i, false)).2 = false) := by
  intro st i hw ho hh hi
  have h1 := sim_termF hF hff hg st i hw ho hh hi
  have hgo := termF_good hg (i, false) hi
  unfold wantF
  generalize (termF L F (i, false)).1 = p
  generalize (termF L F (i, false)).2 = s at *
  obtain ⟨j, f⟩ := s
  rcases h1 with ⟨a, b⟩ | ⟨a, st2, b, c, c2⟩
  · simp only at a b; subst a
    have e2 : (wantL L F L.length (j, true) p).2 = (j, true) := by cases L.length <;> simp [wantL, sk]
    rw [e2]; exact Sim.fail b
  · simp only at a b c; subst a
    rcases sim_wantL hF hff hg L.length st2 j p hgo.1.2 (by omega) c c2 with ⟨x, y⟩ | ⟨x, st3, y, z⟩
    · exact Or.inl ⟨x, b.trans y⟩
    · exact Or.inr ⟨x, st3, b.trans y, z⟩

theorem fac_fail (L : List UInt8) (n : Nat) : FFail (fac L n) := by
  intro j
  cases n <;> simp [fac, pk, leafS_fail]

/-- What stands behind a want within brackets. -/
theorem sim_close {L : List UInt8} {d h j : Nat} {st : ST} (q : FacEnd L (d + 1) h st j) (hh : h ≠ 0) (hj : j ≤ L.length) (h38 : sk L 38 (j, false) = false) (h124 : sk L 124 (j, false) = false) :
    Sim L st j (wd L [41] (j, false)) (fun st' => FacEnd L d h st' (wd L [41] (j, false)).1) := by
  cases hs : sk L 41 (j, false) with
  | true =>
    have hk := sk_lt hs
    have hl : j < L.length := hk.1
    have e : wd L [41] (j, false) = (j + 1, false) := by simp [wd, hs]
    rw [e]
    have hst : stepO st (byt L j) = some (goS { st with op := st.op - 1 } 9 0) := by
      have hb : byt L j = 41 := hk.2.2
      have h1 := q.1
      rw [q.step, hb]; unfold behindO
      rw [if_neg (by omega), if_pos ⟨rfl, by omega⟩]
    exact Sim.go (pl_step hl hst) ⟨by show st.op - 1 = d; have := q.1; omega, q.2.1, Or.inl rfl⟩
  | false =>
    have e : wd L [41] (j, false) = (j, true) := by simp [wd, hs]
    rw [e]
    refine Sim.fail ?_
    by_cases hl : j < L.length
    · refine pl_none hl ?_
      have b1 := sk_byt hs hl; have b2 := sk_byt h38 hl; have b3 := sk_byt h124 hl
      have h1 := q.1
      rw [q.step]; unfold behindO
      rw [if_neg (by omega), if_neg (by omega), if_neg (by omega)]
    · exact pl_end (by omega) (by rw [q.whole hh]; simp)

theorem sim_fac (L : List UInt8) (h : Nat) (hh : h ≠ 0) (n : Nat) : ∀ d, d + n = 4 → PSim L d h (fac L n) := by
  induction n with
  | zero =>
    intro d hd st i hw ho hhd hi
    by_cases h40 : pk L (i, false) = 40
    · have e : (fac L 0 (i, false)).2 = (i, true) := by simp [fac, h40]
      rw [e]
      refine Sim.fail ?_
      obtain ⟨hl, -, -⟩ := wd40 h40
      have hl : i < L.length := hl
      refine pl_none hl ?_
      have hb : byt L i = 40 := by simpa [pk] using h40
      unfold stepO; simp [hw]; unfold factorO
      rw [if_pos hb, if_neg (by omega)]
    · have e : (fac L 0 (i, false)).2 = leafS L (i, false) := by simp [fac, h40]
      rw [e]
      exact sim_leaf hw ho hhd hi h40
  | succ n ih =>
    intro d hd st i hw ho hhd hi
    by_cases h40 : pk L (i, false) = 40
    · obtain ⟨hl, -, he⟩ := wd40 h40
      have hl : i < L.length := hl
      have e : (fac L (n + 1) (i, false)).2 = wd L [41] (wantF L (fac L n) (i + 1, false)).2 := by simp [fac, h40, he]
      rw [e]
      have hb : byt L i = 40 := by simpa [pk] using h40
      have hst : stepO st (byt L i) = some { st with op := st.op + 1 } := by
        unfold stepO; simp [hw]; unfold factorO
        rw [if_pos hb, if_pos (by omega), hw]
      have hpl := pl_step hl hst
      have h1 := sim_wantF (ih (d + 1) (by omega)) (fac_fail L n) (fac_good L n) { st with op := st.op + 1 } (i + 1) hw (by simp [ho]) hhd hl
      have hgo := wantF_good (fac_good L n) (i + 1, false) hl
      generalize (wantF L (fac L n) (i + 1, false)).2 = s at *
      have key : Sim L { st with op := st.op + 1 } (i + 1) (wd L [41] s) (fun st' => FacEnd L d h st' (wd L [41] s).1) := by
        refine h1.then (wd L [41]) (wd_fail L [41]) ?_
        rintro st2 hf ⟨q1, q2, q3⟩
        obtain ⟨j, f⟩ := s
        simp only at hf; subst hf
        exact sim_close q1 hh hgo.1.2 q2 q3
      rcases key with ⟨a, b⟩ | ⟨a, x, b, c⟩
      · exact Or.inl ⟨a, hpl.trans b⟩
      · exact Or.inr ⟨a, x, hpl.trans b, c⟩
    · have e : (fac L (n + 1) (i, false)).2 = leafS L (i, false) := by simp [fac, h40]
      rw [e]
      exact sim_leaf hw ho hhd hi h40

/-- The want of a head. -/
theorem sim_want (L : List UInt8) (h : Nat) (hh : h ≠ 0) : ∀ (st : ST) (i : Nat), st.wh = 7 → st.op = 0 → st.hd = h → i ≤ L.length → Sim L st i (wantF L (fac L 4) (i, false)).2 (fun st' => FacEnd L 0 h st' (wantF L (fac L 4) (i, false)).2.1 ∧ sk L 38 (wantF L (fac L 4) (i, false)).2 = false ∧ sk L 124 (wantF L (fac L 4) (i, false)).2 = false) :=
  sim_wantF (sim_fac L h hh 4 0 rfl) (fac_fail L 4) (fac_good L 4)

end Go.Proofs.YtanknpmojblmcaaGreatDoor

/-
  Plain mathematics: the reader of the program and the stations of the document's answer go together: heads, lines, the whole text.
-/
set_option linter.unusedSimpArgs false
set_option linter.unusedVariables false
namespace Go.Proofs.YtanknpmojblmcaaGreatDoor

/-- Behind a head: the text or the line may end here, and nothing else may stand here. -/
def HE (L : List UInt8) (h : Nat) (st : ST) (i : Nat) : Prop :=
  st.hd = h ∧ wholeB st = true ∧ (i < L.length → (byt L i = 10 → stepO st (byt L i) = some (goS st 0 0)) ∧ (byt L i ≠ 10 → stepO st (byt L i) = none))

theorem FacEnd.he {L : List UInt8} {h j : Nat} {st : ST} (q : FacEnd L 0 h st j) (hh : h ≠ 0) (h38 : sk L 38 (j, false) = false) (h124 : sk L 124 (j, false) = false) : HE L h st j := by
  refine ⟨q.2.1, by rw [q.whole hh]; rfl, fun hl => ?_⟩
  have b2 := sk_byt h38 hl; have b3 := sk_byt h124 hl
  have h1 := q.1
  constructor
  · intro hb
    rw [q.step, hb]; unfold behindO
    rw [if_neg (by omega), if_neg (by omega), if_pos ⟨rfl, h1⟩]
  · intro hb
    rw [q.step]; unfold behindO
    rw [if_neg (by omega), if_neg (by omega), if_neg (by omega)]

/-- At a number of the kind w, behind its digits. -/
structure NumAt (L : List UInt8) (w h : Nat) (st : ST) (i : Nat) : Prop where
  wh : st.wh = 5
  which : st.which = w
  op : st.op = 0
  hd : st.hd = h
  stop : NumEnd L st i
theorem NumAt.step {L : List UInt8} {w h : Nat} {st : ST} {i : Nat} (q : NumAt L w h st i) : stepO st (byt L i) =
    if w = 0 then begunO st 2 (byt L i) else if w = 2 then begunO st 5 (byt L i) else if w = 4 then begunO st 12 (byt L i) else if byt L i = 10 then some (goS st 0 0) else if w = 1 then begunO st 3 (byt L i) else begunO st 6 (byt L i) := by
  have h1 := q.wh; have h2 := q.which; have h3 := q.stop
  unfold stepO
  rw [if_neg (by omega), if_neg (by omega), if_pos h1]
  unfold numberO
  rw [if_neg (by
    rintro ⟨a, b | ⟨b, c⟩⟩
    · have := h3.1; omega
    · exact h3.2 ⟨a, b, c⟩), if_neg (by have := h3.1; omega), h2]
theorem begun_no {st : ST} {w c : Nat} (h : byt (pieceL w) 0 ≠ c) : begunO st w c = none := litO_no (by simpa [goS] using h)
theorem begun_yes {st : ST} {w c : Nat} (h0 : 1 < (pieceL w).length) (h : byt (pieceL w) 0 = c) : begunO st w c = some { goS st 3 w with k := 1 } := by
  unfold begunO
  rw [litO_yes (by simpa [goS] using (by omega : 0 < (pieceL w).length)) (by simpa [goS] using h)]
  unfold litTo
  rw [if_pos (by simpa [goS] using h0)]; rfl
theorem NumAt.he {L : List UInt8} {w h j : Nat} {st : ST} (q : NumAt L w h st j) (hw : w = 1 ∨ w = 3) (hh : h ≠ 0) (h32 : sk L 32 (j, false) = false) : HE L h st j := by
  refine ⟨q.hd, ?_, fun hl => ?_⟩
  · unfold wholeB
    have h1 := q.wh; have h2 := q.which; have h3 := q.stop.1; have h4 := q.hd
    rcases hw with rfl | rfl <;> simp [h1, h2, h4, hh] <;> omega
  · have hb := sk_byt h32 hl
    have hs := q.step
    constructor
    · intro hn; rw [hs]; rcases hw with rfl | rfl <;> simp [hn]
    · intro hn; rw [hs]
      have e3 : begunO st 3 (byt L j) = none := begun_no (by show (32 : Nat) ≠ _; exact fun q => hb q.symm)
      have e6 : begunO st 6 (byt L j) = none := begun_no (by show (32 : Nat) ≠ _; exact fun q => hb q.symm)
      rcases hw with rfl | rfl <;> simp [hn, e3, e6]

theorem sim_numAt {L : List UInt8} {w h : Nat} {st : ST} {i : Nat} (h1 : st.wh = 5) (h2 : st.which = w) (h3 : st.op = 0) (h4 : st.hd = h) (hk : st.k = 0) (hi : i ≤ L.length) :
    Sim L st i (numS L (i, false)) (fun st' => NumAt L w h st' (numS L (i, false)).1) := by
  refine (sim_num h1 hk hi).mono ?_
  rintro st' hf ⟨⟨k, no, rfl⟩, hn⟩
  exact ⟨h1, h2, h3, h4, hn⟩

theorem sim_aft {L : List UInt8} {h j : Nat} {st : ST} {hv : HV} (hh : h ≠ 0) (hj : j ≤ L.length)
    (hs : Sim L st j (wd L [102, 116, 101, 114, 61] (j, false)) (fun st' => st'.wh = 7 ∧ st'.op = 0 ∧ st'.hd = h)) :
    Sim L st j (aftH L hv (j, false)).2 (fun st' => HE L h st' (aftH L hv (j, false)).2.1) := by
  have e : (aftH L hv (j, false)).2 = (wantF L (fac L 4) (wd L [102, 116, 101, 114, 61] (j, false))).2 := rfl
  rw [e]
  have hg := wd_goes L [102, 116, 101, 114, 61] (j, false) hj
  refine hs.then (fun s => (wantF L (fac L 4) s).2) (wantF_fail (fac_fail L 4)) ?_
  rintro st1 hf ⟨q1, q2, q3⟩
  have es : wd L [102, 116, 101, 114, 61] (j, false) = ((wd L [102, 116, 101, 114, 61] (j, false)).1, false) := Prod.ext rfl hf
  rw [es]
  have hw := sim_want L h hh st1 (wd L [102, 116, 101, 114, 61] (j, false)).1 q1 q2 q3 hg.2
  refine hw.mono ?_
  rintro st2 hf2 ⟨r1, r2, r3⟩
  have es2 : (wantF L (fac L 4) ((wd L [102, 116, 101, 114, 61] (j, false)).1, false)).2 = ((wantF L (fac L 4) ((wd L [102, 116, 101, 114, 61] (j, false)).1, false)).2.1, false) := Prod.ext rfl hf2
  rw [es2] at r2 r3
  exact r1.he hh r2 r3

theorem aftH_fail (L : List UInt8) (hv : HV) (j : Nat) : (aftH L hv (j, true)).2 = (j, true) := by
  show (wantF L (fac L 4) (wd L [102, 116, 101, 114, 61] (j, true))).2 = _
  rw [wd_fail]; exact wantF_fail (fac_fail L 4) j
theorem arrH_fail (L : List UInt8) (hv : HV) (j : Nat) : (arrH L hv (j, true)).2 = (j, true) := by
  show numS L (wd L [45] (numS L (j, true))) = _
  rw [numS_fail, wd_fail, numS_fail]
theorem optH_fail (L : List UInt8) (hv : HV) (j : Nat) : (optH L hv (j, true)).2 = (j, true) := by simp [optH, sk]

theorem sim_arr {L : List UInt8} {h j : Nat} {st : ST} {hv : HV} (h1 : st.wh = 5) (h2 : st.which = 2) (h3 : st.op = 0) (h4 : st.hd = h) (hk : st.k = 0) (hj : j ≤ L.length) :
    Sim L st j (arrH L hv (j, false)).2 (fun st' => NumAt L 3 h st' (arrH L hv (j, false)).2.1) := by
  have a := sim_numAt h1 h2 h3 h4 hk hj
  have hg1 := numS_goes L (j, false) hj
  have b : Sim L st j (wd L [45] (numS L (j, false))) (fun st' => st'.wh = 5 ∧ st'.which = 3 ∧ st'.op = 0 ∧ st'.hd = h ∧ st'.k = 0) := by
    refine a.then (wd L [45]) (wd_fail L [45]) ?_
    rintro st1 hf q
    have es : numS L (j, false) = ((numS L (j, false)).1, false) := Prod.ext rfl hf
    rw [es]
    refine (sim_begun (w := 5) (c := 45) (W := []) (R := []) hg1.2 rfl (by intro _; rw [q.step]; simp) (by intro _; unfold wholeB; simp [q.wh, q.which])).mono ?_
    rintro st2 hf2 rfl
    exact ⟨rfl, rfl, q.op, q.hd, rfl⟩
  have hg2 := wd_goes L [45] _ hg1.2
  show Sim L st j (numS L (wd L [45] (numS L (j, false)))) (fun st' => NumAt L 3 h st' (numS L (wd L [45] (numS L (j, false)))).1)
  refine b.then (numS L) (numS_fail L) ?_
  rintro st1 hf ⟨q1, q2, q3, q4, q5⟩
  have es : wd L [45] (numS L (j, false)) = ((wd L [45] (numS L (j, false))).1, false) := Prod.ext rfl hf
  rw [es]
  exact sim_numAt q1 q2 q3 q4 q5 hg2.2

theorem whole6 {s : ST} (h : s.wh = 6) : wholeB s = false := by unfold wholeB; simp [h]

theorem sim_opt {L : List UInt8} {h j : Nat} {st : ST} {hv : HV} (hh : h ≠ 0) (hj : j ≤ L.length) (q : NumAt L 1 h st j) :
    Sim L st j (optH L hv (j, false)).2 (fun st' => HE L h st' (optH L hv (j, false)).2.1) := by
  cases hs : sk L 32 (j, false) with
  | false =>
    have e : optH L hv (j, false) = (hv, (j, false)) := by simp [optH, hs]
    rw [e]
    exact Sim.go rfl (q.he (Or.inl rfl) hh hs)
  | true =>
    have hk := sk_lt hs
    have hl : j < L.length := hk.1
    have hb : byt L j = 32 := hk.2.2
    have hst : stepO st (byt L j) = some { goS st 3 3 with k := 1 } := by rw [q.step, hb]; simp; exact begun_yes (by decide) rfl
    have hpl := pl_step hl hst
    have e : optH L hv (j, false) = if pk L (wd L [97] (j + 1, false)) = 114 then
      if sk L 32 (arrH L hv (wd L [114, 114, 97, 121, 61] (wd L [97] (j + 1, false)))).2 then
        aftH L (arrH L hv (wd L [114, 114, 97, 121, 61] (wd L [97] (j + 1, false)))).1 (wd L [97] ((arrH L hv (wd L [114, 114, 97, 121, 61] (wd L [97] (j + 1, false)))).2.1 + 1, (arrH L hv (wd L [114, 114, 97, 121, 61] (wd L [97] (j + 1, false)))).2.2))
      else arrH L hv (wd L [114, 114, 97, 121, 61] (wd L [97] (j + 1, false)))
    else aftH L hv (wd L [97] (j + 1, false)) := by simp [optH, hs]
    have a := sim_lit L [] 97 [] { goS st 3 3 with k := 1 } (j + 1) rfl (by omega) rfl
    have hg1 := wd_goes L [97] (j + 1, false) (by show j + 1 ≤ _; omega)
    have key : Sim L { goS st 3 3 with k := 1 } (j + 1) (optH L hv (j, false)).2 (fun st' => HE L h st' (optH L hv (j, false)).2.1) := by
      rw [e]
      generalize wd L [97] (j + 1, false) = s1 at *
      obtain ⟨j1, f1⟩ := s1
      rcases a with ⟨x, y⟩ | ⟨x, st1, y, rfl⟩
      · simp only at x y; subst x
        have e2 : pk L (j1, true) = 0 := by simp [pk]
        rw [e2, if_neg (by decide), aftH_fail]
        exact Sim.fail y
      · simp only at x y; subst x
        have hj1 : j1 ≤ L.length := hg1.2
        refine Sim.from' y ?_
        by_cases hr : pk L (j1, false) = 114
        · rw [if_pos hr]
          obtain ⟨-, hl1⟩ := pk_40' hr (by decide)
          have hb1 : byt L j1 = 114 := by simpa [pk] using hr
          have b := sim_begun (L := L) (st := litTo { goS st 3 3 with k := 1 } (([] : List UInt8).length + 1)) (i := j1) (w := 4) (c := 114) (W := [114, 97, 121, 61]) (R := []) hj1 rfl
            (by intro _; rw [hb1]; rfl) (by intro _; exact whole6 rfl)
          have hg2 := wd_goes L [114, 114, 97, 121, 61] (j1, false) hj1
          have c : Sim L (litTo { goS st 3 3 with k := 1 } (([] : List UInt8).length + 1)) j1 (arrH L hv (wd L [114, 114, 97, 121, 61] (j1, false))).2 (fun st' => NumAt L 3 h st' (arrH L hv (wd L [114, 114, 97, 121, 61] (j1, false))).2.1) := by
            refine b.then (fun s => (arrH L hv s).2) (arrH_fail L hv) ?_
            rintro st2 hf2 rfl
            have es : wd L [114, 114, 97, 121, 61] (j1, false) = ((wd L [114, 114, 97, 121, 61] (j1, false)).1, false) := Prod.ext rfl hf2
            rw [es]
            exact sim_arr rfl rfl q.op q.hd rfl hg2.2
          have hg3 := arrH_goes L hv _ hg2.2
          generalize arrH L hv (wd L [114, 114, 97, 121, 61] (j1, false)) = r at *
          obtain ⟨hv2, j2, f2⟩ := r
          rcases c with ⟨x2, y2⟩ | ⟨x2, st2, y2, q2⟩
          · simp only at x2 y2; subst x2
            have e3 : sk L 32 (j2, true) = false := by simp [sk]
            simp only
            rw [e3, if_neg (by decide)]
            exact Sim.fail y2
          · simp only at x2 y2 q2; subst x2
            simp only
            have hj2 : j2 ≤ L.length := hg3.2
            refine Sim.from' y2 ?_
            cases hs2 : sk L 32 (j2, false) with
            | false =>
              rw [if_neg (by decide)]
              exact Sim.go rfl (q2.he (Or.inr rfl) hh hs2)
            | true =>
              rw [if_pos rfl]
              have hk2 := sk_lt hs2
              have hl2 : j2 < L.length := hk2.1
              have hb2 : byt L j2 = 32 := hk2.2.2
              have hst2 : stepO st2 (byt L j2) = some { goS st2 3 6 with k := 1 } := by rw [q2.step, hb2]; simp; exact begun_yes (by decide) rfl
              refine Sim.from' (pl_step hl2 hst2) ?_
              have d := sim_lit L [] 97 [102, 116, 101, 114, 61] { goS st2 3 6 with k := 1 } (j2 + 1) rfl (by omega) rfl
              have hg4 := wd_goes L [97] (j2 + 1, false) (by show j2 + 1 ≤ _; omega)
              refine d.then' (fun s => (aftH L hv2 s).2) (aftH_fail L hv2) (fun st' s => HE L h st' s.1) ?_
              rintro st3 hf3 rfl
              refine sim_aft hh hg4.2 ?_
              refine (sim_lit L [116, 101, 114, 61] 102 [] (litTo { goS st2 3 6 with k := 1 } (([] : List UInt8).length + 1)) (wd L [97] (j2 + 1, false)).1 rfl hg4.2 rfl).mono ?_
              rintro st4 hf4 rfl
              exact ⟨rfl, q2.op, q2.hd⟩
        · rw [if_neg hr]
          refine sim_aft hh hj1 ?_
          have hb1 : byt L j1 ≠ 114 := by simpa [pk] using hr
          refine (sim_begun (L := L) (st := litTo { goS st 3 3 with k := 1 } (([] : List UInt8).length + 1)) (i := j1) (w := 7) (c := 102) (W := [116, 101, 114, 61]) (R := []) hj1 rfl
            (by intro _; show optionO _ _ = _; unfold optionO; rw [if_neg hb1]) (by intro _; exact whole6 rfl)).mono ?_
          rintro st4 hf4 rfl
          exact ⟨rfl, q.op, q.hd⟩
    exact Sim.from' hpl key

end Go.Proofs.YtanknpmojblmcaaGreatDoor

/-
  Plain mathematics: the place of an error: the reader of the program tells what the document's answer tells.
-/
set_option linter.unusedSimpArgs false
set_option linter.unusedVariables false
namespace Go.Proofs.YtanknpmojblmcaaGreatDoor

theorem sees_hed1 {L : List UInt8} {i : Nat} (h : seesB L i = true) : hed1 L (i, false) = wd L [32] (i + 2, false) ∧ i + 2 ≤ L.length := by
  simp [seesB] at h
  have h1 : i < L.length := byt_in (by omega)
  have h2 : i + 1 < L.length := byt_in (by omega)
  refine ⟨?_, h2⟩
  have e1 : sk L 35 (i, false) = true := by simp [sk, h1, h.1]
  have e2 : sk L 74 (i + 1, false) = true := by simp [sk, h2, h.2]
  unfold hed1
  conv => lhs; unfold wd
  rw [if_pos (by simpa using e1)]
  conv => lhs; unfold wd
  rw [if_pos (by simpa using e2)]

theorem sim_headH {L : List UInt8} {i h : Nat} {st : ST} (hs : seesB L i = true) (hw : st.wh = 0) (hh : st.hd = h) :
    Sim L st i (headH L (i, false)).2 (fun st' => HE L (h + 1) st' (headH L (i, false)).2.1) := by
  obtain ⟨he1, hi2⟩ := sees_hed1 hs
  have hi : i ≤ L.length := by omega
  simp [seesB] at hs
  have hl0 : i < L.length := by omega
  have hl1 : i + 1 < L.length := by omega
  have p0 : pl L st i = pl L (goS st 1 0) (i + 1) := by
    refine pl_step hl0 ?_
    rw [hs.1]; unfold stepO; simp [hw]; unfold lineO; simp [hw]
  have p1 : pl L (goS st 1 0) (i + 1) = pl L (goS { goS st 1 0 with hd := h + 1, op := 0 } 3 0) (i + 1 + 1) := by
    refine pl_step hl1 ?_
    rw [hs.2]; unfold stepO; simp [goS]; unfold lineO; simp [goS, hh]
  refine Sim.from' (p0.trans p1) ?_
  have g1 := hed1_goes L (i, false) hi
  have g2 := hed2_goes L (i, false) hi
  have g3 := hed3_goes L (i, false) hi
  have g4 := hed4_goes L (i, false) hi
  have S1 : Sim L (goS { goS st 1 0 with hd := h + 1, op := 0 } 3 0) (i + 1 + 1) (hed1 L (i, false)) (fun st' => st'.wh = 4 ∧ st'.k = 0 ∧ st'.op = 0 ∧ st'.hd = h + 1) := by
    rw [he1]
    refine (sim_lit L [] 32 [] _ (i + 2) rfl (by omega) rfl).mono ?_
    rintro st1 hf rfl
    exact ⟨rfl, rfl, rfl, rfl⟩
  have S2 : Sim L (goS { goS st 1 0 with hd := h + 1, op := 0 } 3 0) (i + 1 + 1) (nmS L (hed1 L (i, false))) (fun st' => st'.wh = 4 ∧ st'.op = 0 ∧ st'.hd = h + 1 ∧ NameEnd L st' (nmS L (hed1 L (i, false))).1) := by
    refine S1.then' (nmS L) (nmS_fail L) (fun st' s => st'.wh = 4 ∧ st'.op = 0 ∧ st'.hd = h + 1 ∧ NameEnd L st' s.1) ?_
    rintro st1 hf ⟨q1, q2, q3, q4⟩
    refine (sim_nm (Or.inl q1) q2 g1.2).mono ?_
    rintro st2 hf2 ⟨rfl, hn⟩
    exact ⟨q1, q3, q4, by simpa [nmS] using hn⟩
  have S3 : Sim L (goS { goS st 1 0 with hd := h + 1, op := 0 } 3 0) (i + 1 + 1) (hed2 L (i, false)) (fun st' => st'.wh = 5 ∧ st'.which = 0 ∧ st'.op = 0 ∧ st'.hd = h + 1 ∧ st'.k = 0) := by
    refine S2.then (wd L [32, 110, 111, 100, 101, 115, 61]) (wd_fail L _) ?_
    rintro st1 hf ⟨q1, q2, q3, q4⟩
    have gn := (nmS_goes L _ g1.2).2
    refine (sim_begun (w := 1) (c := 32) (W := [110, 111, 100, 101, 115, 61]) (R := []) gn rfl (by
      intro _
      unfold stepO
      rw [if_neg (by omega), if_pos (Or.inl q1)]
      unfold nameO
      obtain ⟨a, b, c⟩ := q4
      rw [if_neg (by rintro ⟨x, y⟩; rw [c y] at x; cases x), if_neg (by omega), if_pos q1]) (by intro _; unfold wholeB; simp [q1])).mono ?_
    rintro st2 hf2 rfl
    exact ⟨rfl, rfl, q2, q3, rfl⟩
  have S4 : Sim L (goS { goS st 1 0 with hd := h + 1, op := 0 } 3 0) (i + 1 + 1) (numS L (hed2 L (i, false))) (fun st' => NumAt L 0 (h + 1) st' (numS L (hed2 L (i, false))).1) := by
    refine S3.then' (numS L) (numS_fail L) (fun st' s => NumAt L 0 (h + 1) st' s.1) ?_
    rintro st1 hf ⟨q1, q2, q3, q4, q5⟩
    exact sim_numAt q1 q2 q3 q4 q5 g2.2
  have S5 : Sim L (goS { goS st 1 0 with hd := h + 1, op := 0 } 3 0) (i + 1 + 1) (hed3 L (i, false)) (fun st' => st'.wh = 5 ∧ st'.which = 1 ∧ st'.op = 0 ∧ st'.hd = h + 1 ∧ st'.k = 0) := by
    refine S4.then (wd L [32, 116, 105, 109, 101, 61]) (wd_fail L _) ?_
    rintro st1 hf q
    have gn := (numS_goes L _ g2.2).2
    refine (sim_begun (w := 2) (c := 32) (W := [116, 105, 109, 101, 61]) (R := []) gn rfl (by intro _; rw [q.step]; simp) (by intro _; unfold wholeB; simp [q.wh, q.which])).mono ?_
    rintro st2 hf2 rfl
    exact ⟨rfl, rfl, q.op, q.hd, rfl⟩
  have S6 : Sim L (goS { goS st 1 0 with hd := h + 1, op := 0 } 3 0) (i + 1 + 1) (hed4 L (i, false)) (fun st' => NumAt L 1 (h + 1) st' (hed4 L (i, false)).1) := by
    refine S5.then' (numS L) (numS_fail L) (fun st' s => NumAt L 1 (h + 1) st' s.1) ?_
    rintro st1 hf ⟨q1, q2, q3, q4, q5⟩
    exact sim_numAt q1 q2 q3 q4 q5 g3.2
  refine S6.then' (fun s => (optH L (hedV L (i, false)) s).2) (optH_fail L _) (fun st' s => HE L (h + 1) st' s.1) ?_
  rintro st1 hf q
  exact sim_opt (by omega) g4.2 q

/-- A command: up to the end of its line. -/
theorem pl_other (L : List UInt8) (n : Nat) : ∀ (st : ST) (i : Nat), st.wh = 2 → i ≤ L.length → L.length - i ≤ n → ∃ st', pl L st i = pl L st' (toNl L i) ∧ st'.wh = 2 ∧ st'.hd = st.hd := by
  induction n with
  | zero => intro st i hw hi hn; exact ⟨st, by rw [toNl_end (by omega)], hw, rfl⟩
  | succ n ih =>
    intro st i hw hi hn
    by_cases hl : i < L.length
    · by_cases hb : byt L i = 10
      · exact ⟨st, by rw [toNl_at hl hb], hw, rfl⟩
      · have hst : stepO st (byt L i) = some (goS st 2 0) := by unfold stepO; simp [hw]; unfold lineO; simp [hb, hw]
        obtain ⟨st', h1, h2, h3⟩ := ih (goS st 2 0) (i + 1) rfl hl (by omega)
        exact ⟨st', by rw [pl_step hl hst, h1, toNl_step hl hb], h2, h3⟩
    · exact ⟨st, by rw [toNl_end (by omega)], hw, rfl⟩
theorem pl_command {L : List UInt8} {st : ST} {i : Nat} (hw : st.wh = 0) (hi : i ≤ L.length) (hs : seesB L i = false) : ∃ st', pl L st i = pl L st' (toNl L i) ∧ st'.wh ≤ 2 ∧ st'.hd = st.hd := by
  by_cases hl : i < L.length
  · by_cases hb : byt L i = 10
    · exact ⟨st, by rw [toNl_at hl hb], by omega, rfl⟩
    · by_cases h35 : byt L i = 35
      · have hst : stepO st (byt L i) = some (goS st 1 0) := by unfold stepO; simp [hw]; unfold lineO; simp [h35, hw]
        have hp := pl_step hl hst
        by_cases hl1 : i + 1 < L.length
        · by_cases hb1 : byt L (i + 1) = 10
          · exact ⟨goS st 1 0, by rw [hp, toNl_step hl hb, toNl_at hl1 hb1], by simp [goS], rfl⟩
          · have h74 : byt L (i + 1) ≠ 74 := by intro e; simp [seesB, h35, e] at hs
            have hst1 : stepO (goS st 1 0) (byt L (i + 1)) = some (goS (goS st 1 0) 2 0) := by unfold stepO; simp [goS]; unfold lineO; simp [goS, hb1, h74]
            obtain ⟨st', h1, h2, h3⟩ := pl_other L L.length (goS (goS st 1 0) 2 0) (i + 1 + 1) rfl (by omega) (by omega)
            exact ⟨st', by rw [hp, pl_step hl1 hst1, h1, toNl_step hl hb, toNl_step hl1 hb1], by omega, h3⟩
        · exact ⟨goS st 1 0, by rw [hp, toNl_step hl hb, toNl_end (by omega)], by simp [goS], rfl⟩
      · have hst : stepO st (byt L i) = some (goS st 2 0) := by unfold stepO; simp [hw]; unfold lineO; simp [hb, h35, hw]
        obtain ⟨st', h1, h2, h3⟩ := pl_other L L.length (goS st 2 0) (i + 1) rfl (by omega) (by omega)
        exact ⟨st', by rw [pl_step hl hst, h1, toNl_step hl hb], by omega, h3⟩
  · exact ⟨st, by rw [toNl_end (by omega)], by omega, rfl⟩

theorem toNl_nl (L : List UInt8) (n : Nat) : ∀ i, L.length - i ≤ n → toNl L i < L.length → byt L (toNl L i) = 10 := by
  induction n with
  | zero => intro i hn h; rw [toNl_end (by omega)] at h ⊢; omega
  | succ n ih =>
    intro i hn h
    by_cases hl : i < L.length
    · by_cases hb : byt L i = 10
      · rw [toNl_at hl hb]; exact hb
      · rw [toNl_step hl hb] at h ⊢; exact ih (i + 1) (by omega) h
    · rw [toNl_end (by omega)] at h; omega

def tells (L : List UInt8) (r : List HV × (Nat × Bool)) : Option Nat := if (r.2.2 || decide (r.2.1 < L.length) || r.1.isEmpty) = true then some r.2.1 else none

theorem sim_hdsL (L : List UInt8) (n : Nat) : ∀ (st : ST) (i : Nat) (hs : List HV), st.wh = 0 → st.hd = hs.length → i ≤ L.length → L.length - i < n → pl L st i = tells L (hdsL L n (i, false) hs) := by
  induction n with
  | zero => intro st i hs _ _ _ h; omega
  | succ n ih =>
    intro st i hs hw hh hi hn
    cases hse : seesB L i with
    | true =>
      have a := sim_headH (h := hs.length) hse hw hh
      have hg := headH_goes L (i, false) hi
      have e : lineH L (i, false) hs = (hs ++ [(headH L (i, false)).1], (headH L (i, false)).2) := by simp [lineH, hse]
      generalize hhs : hs ++ [(headH L (i, false)).1] = hs' at *
      have hl' : hs'.length = hs.length + 1 := by rw [← hhs]; simp
      have hne : hs'.isEmpty = false := by cases hs' with
        | nil => simp at hl'
        | cons _ _ => rfl
      generalize (headH L (i, false)).2 = s at *
      obtain ⟨j, f⟩ := s
      rcases a with ⟨x, y⟩ | ⟨x, st1, y, q1, q2, q3⟩
      · simp only at x y; subst x
        have e2 : hdsL L (n + 1) (i, false) hs = (hs', (j, true)) := by
          unfold hdsL; rw [e, if_neg (by simp [sk])]
        rw [e2, y]; simp [tells]
      · simp only at x y q3; subst x
        have hj : j ≤ L.length := hg.2
        have hij : i ≤ j := hg.1
        rw [y]
        cases hk : sk L 10 (j, false) with
        | true =>
          have hk2 := sk_lt hk
          have hl : j < L.length := hk2.1
          have hb : byt L j = 10 := hk2.2.2
          have e2 : hdsL L (n + 1) (i, false) hs = hdsL L n (j + 1, false) hs' := by
            conv => lhs; unfold hdsL
            rw [e, if_pos hk]
          rw [e2, pl_step hl ((q3 hl).1 hb)]
          exact ih (goS st1 0 0) (j + 1) hs' rfl (by show st1.hd = _; omega) hl (by omega)
        | false =>
          have e2 : hdsL L (n + 1) (i, false) hs = (hs', (j, false)) := by
            unfold hdsL; rw [e, if_neg (by rw [hk]; decide)]
          rw [e2]
          by_cases hl : j < L.length
          · rw [pl_none hl ((q3 hl).2 (sk_byt hk hl))]; simp [tells, hl]
          · rw [pl_whole (by omega) q2]; simp [tells, hne, hl]
    | false =>
      have e : lineH L (i, false) hs = (hs, (toNl L i, false)) := by simp [lineH, hse]
      obtain ⟨st1, y, q1, q2⟩ := pl_command hw hi hse
      have hg := toNl_goes L i hi
      have hnl := toNl_nl L L.length i (by omega)
      generalize toNl L i = j at *
      rw [y]
      by_cases hl : j < L.length
      · have hb := hnl hl
        have hk : sk L 10 (j, false) = true := by simp [sk, hl, hb]
        have e2 : hdsL L (n + 1) (i, false) hs = hdsL L n (j + 1, false) hs := by
          conv => lhs; unfold hdsL
          rw [e, if_pos hk]
        have hst : stepO st1 (byt L j) = some (goS st1 0 0) := by
          unfold stepO
          rw [if_neg (by omega), if_neg (by omega), if_neg (by omega), if_neg (by omega), if_neg (by omega), if_neg (by omega)]
          unfold lineO; rw [if_pos hb]
        rw [e2, pl_step hl hst]
        exact ih (goS st1 0 0) (j + 1) hs rfl (by show st1.hd = _; omega) hl (by omega)
      · have e2 : hdsL L (n + 1) (i, false) hs = (hs, (j, false)) := by
          unfold hdsL; rw [e, if_neg (by simp [sk, hl])]
        rw [e2]
        have hwb : wholeB st1 = !hs.isEmpty := by
          unfold wholeB
          cases hs with
          | nil => simp at hh; rw [if_pos (by omega)]; rfl
          | cons a r =>
            simp at hh
            rw [if_neg (by omega), if_pos (by omega)]; rfl
        cases hs with
        | nil => rw [pl_end (by omega) hwb]; simp [tells]
        | cons a r => rw [pl_whole (by omega) hwb]; simp [tells, hl]

/-- THE PLACE: the document's answer and the program's reader tell the same. -/
theorem place_is (L : List UInt8) : placeO st0 L 0 = if (hdsR L).2.2 = true then some (hdsR L).2.1 else none := by
  have := sim_hdsL L (L.length + 1) st0 0 [] rfl rfl (by omega) (by omega)
  exact this

end Go.Proofs.YtanknpmojblmcaaGreatDoor

/-
  Plain mathematics: wants as joined texts whose leaves are of a kind Kd, and their plain forms (after MathP, which has them for all leaves).
-/
set_option linter.unusedSimpArgs false
set_option linter.unusedVariables false
namespace Go.Proofs.YtanknpmojblmcaaGreatDoor

theorem cutNI_40 {W : List UInt8} {c f k m : Nat} {n : Int} (h : byt W k = 40) : cutNI W c (f + 1) k n m = cutNI W c f (k + 1) (n + 1) m := by rw [cutNI, if_pos h]
theorem cutNI_41 {W : List UInt8} {c f k m : Nat} {n : Int} (h : byt W k = 41) : cutNI W c (f + 1) k n m = cutNI W c f (k + 1) (n - 1) m := by rw [cutNI, if_neg (by omega), if_pos h]
theorem cutNI_c {W : List UInt8} {c f k m : Nat} {n : Int} (h1 : byt W k ≠ 40) (h2 : byt W k ≠ 41) (h : byt W k = c ∧ n = 0) : cutNI W c (f + 1) k n m = cutNI W c f (k + 1) n (m + 1) := by rw [cutNI, if_neg h1, if_neg h2, if_pos h]
theorem cutNI_o {W : List UInt8} {c f k m : Nat} {n : Int} (h1 : byt W k ≠ 40) (h2 : byt W k ≠ 41) (h : ¬ (byt W k = c ∧ n = 0)) : cutNI W c (f + 1) k n m = cutNI W c f (k + 1) n m := by rw [cutNI, if_neg h1, if_neg h2, if_neg h]

theorem cutNI_pos (W : List UInt8) (c : Nat) (f : Nat) : ∀ k n m, m + 1 ≤ cutNI W c f k n m ∧ cutNI W c f k n m ≤ m + 1 + f := by
  induction f with
  | zero => intro k n m; simp [cutNI]
  | succ f ih =>
    intro k n m
    unfold cutNI
    split
    · have := ih (k + 1) (n + 1) m; omega
    split
    · have := ih (k + 1) (n - 1) m; omega
    split
    · have := ih (k + 1) n (m + 1); omega
    · have := ih (k + 1) n m; omega
theorem cutN_pos (W : List UInt8) (c : Nat) : 1 ≤ cutN W c ∧ cutN W c ≤ 1 + W.length := by
  have := cutNI_pos W c W.length 0 0 0; unfold cutN; omega

/-- Texts joined by a byte. -/
def ptl (c : UInt8) : List (List UInt8) → List UInt8
  | [] => []
  | w :: r => c :: (w ++ ptl c r)
def phd (c : UInt8) : List (List UInt8) → List UInt8
  | [] => []
  | w :: r => w ++ c :: phd c r
def jnl (c : UInt8) : List (List UInt8) → List UInt8
  | [] => []
  | w :: r => w ++ ptl c r

theorem ptl_append (c : UInt8) (a b : List (List UInt8)) : ptl c (a ++ b) = ptl c a ++ ptl c b := by
  induction a with
  | nil => rfl
  | cons w r ih => simp [ptl, ih]
theorem jnl_splice (c : UInt8) (a m b : List (List UInt8)) (hm : m ≠ []) : jnl c (a ++ m ++ b) = phd c a ++ jnl c m ++ ptl c b := by
  induction a with
  | nil =>
    cases m with
    | nil => exact absurd rfl hm
    | cons w r => simp [jnl, phd, ptl_append]
  | cons w r ih =>
    have e : ∀ x : List (List UInt8), x ≠ [] → ptl c x = c :: jnl c x := by
      intro x hx
      cases x with
      | nil => exact absurd rfl hx
      | cons y z => rfl
    have hne : r ++ m ++ b ≠ [] := by
      cases m with
      | nil => exact absurd rfl hm
      | cons x y => simp
    show w ++ ptl c (r ++ m ++ b) = _
    rw [e _ hne, ih]
    simp [phd]
theorem jnl_one (c : UInt8) (a : List (List UInt8)) (w : List UInt8) (b : List (List UInt8)) : jnl c (a ++ w :: b) = phd c a ++ w ++ ptl c b := by
  have := jnl_splice c a [w] b (by simp)
  simpa [jnl, ptl] using this
theorem phd_last (c : UInt8) (a : List (List UInt8)) (ha : a ≠ []) : (phd c a).getLast? = some c := by
  induction a with
  | nil => exact absurd rfl ha
  | cons w r ih =>
    cases r with
    | nil => simp [phd]
    | cons x y =>
      have := ih (by simp)
      show (w ++ c :: phd c (x :: y)).getLast? = some c
      rw [List.getLast?_append, List.getLast?_cons, this]; rfl
theorem ptl_first (c : UInt8) (a : List (List UInt8)) (ha : a ≠ []) : (ptl c a).head? = some c := by
  cases a with
  | nil => exact absurd rfl ha
  | cons w r => rfl

/-- In which of the joined texts a bracket stands. -/
theorem ptl_find {α : Type} (c : UInt8) (hc : c ≠ 40) (g : α → List UInt8) (l : List α) : ∀ X Y, ptl c (l.map g) = X ++ 40 :: Y →
    ∃ l1 x l2 X' Y', l = l1 ++ x :: l2 ∧ g x = X' ++ 40 :: Y' ∧ X = c :: (phd c (l1.map g) ++ X') ∧ Y = Y' ++ ptl c (l2.map g) := by
  induction l with
  | nil => intro X Y h; simp [ptl] at h
  | cons y r ih =>
    intro X Y h
    have h : c :: (g y ++ ptl c (r.map g)) = X ++ 40 :: Y := h
    cases X with
    | nil => injection h with h1 h2; exact absurd h1 hc
    | cons d X =>
      injection h with h1 h2
      subst h1
      rcases List.append_eq_append_iff.1 h2 with ⟨q, e1, e2⟩ | ⟨q, e1, e2⟩
      · obtain ⟨l1, x, l2, X', Y', a1, a2, a3, a4⟩ := ih q Y e2
        refine ⟨y :: l1, x, l2, X', Y', by rw [a1]; rfl, a2, ?_, a4⟩
        rw [e1, a3]; simp [phd]
      · cases q with
        | nil =>
          simp at e1 e2
          obtain ⟨l1, x, l2, X', Y', a1, a2, a3, a4⟩ := ih [] Y (by rw [← e2]; rfl)
          cases a3
        | cons d2 q =>
          injection e2 with e3 e4
          subst e3
          exact ⟨[], y, r, X, q, rfl, e1, by simp [phd], e4⟩
theorem jnl_find {α : Type} (c : UInt8) (hc : c ≠ 40) (g : α → List UInt8) (l : List α) (X Y : List UInt8) (h : jnl c (l.map g) = X ++ 40 :: Y) :
    ∃ l1 x l2 X' Y', l = l1 ++ x :: l2 ∧ g x = X' ++ 40 :: Y' ∧ X = phd c (l1.map g) ++ X' ∧ Y = Y' ++ ptl c (l2.map g) := by
  cases l with
  | nil => simp [jnl] at h
  | cons y r =>
    have h2 : ptl c ((y :: r).map g) = (c :: X) ++ 40 :: Y := by
      show c :: jnl c ((y :: r).map g) = _
      rw [h]; rfl
    obtain ⟨l1, x, l2, X', Y', a1, a2, a3, a4⟩ := ptl_find c hc g (y :: r) (c :: X) Y h2
    injection a3 with _ a3
    exact ⟨l1, x, l2, X', Y', a1, a2, a3, a4⟩

def termV : List (List UInt8 × Nat) → List UInt8 × Nat
  | [p] => p
  | ps => (jnl 38 (ps.map asF), 1)
def wantV (ps : List (List UInt8 × Nat)) : List UInt8 × Nat := (jnl 124 (ps.map Prod.fst), (ps.map Prod.snd).sum)
theorem termV_two {ps : List (List UInt8 × Nat)} (h : 2 ≤ ps.length) : termV ps = (jnl 38 (ps.map asF), 1) := by
  cases ps with
  | nil => rfl
  | cons p r =>
    cases r with
    | nil => simp at h
    | cons q r => rfl

/-- A want: its text, its plain form, how many terms that has. -/
def TermP (F : List UInt8 → List UInt8 × Nat → Prop) (W : List UInt8) (p : List UInt8 × Nat) : Prop :=
  ∃ l : List (List UInt8 × (List UInt8 × Nat)), l ≠ [] ∧ (∀ x ∈ l, F x.1 x.2) ∧ W = jnl 38 (l.map Prod.fst) ∧ p = termV (l.map Prod.snd)
def WantP (F : List UInt8 → List UInt8 × Nat → Prop) (W : List UInt8) (p : List UInt8 × Nat) : Prop :=
  ∃ l : List (List UInt8 × (List UInt8 × Nat)), l ≠ [] ∧ (∀ x ∈ l, TermP F x.1 x.2) ∧ W = jnl 124 (l.map Prod.fst) ∧ p = wantV (l.map Prod.snd)
def LeafP (W : List UInt8) : Prop := ∀ c ∈ W, c ≠ 40 ∧ c ≠ 41 ∧ c ≠ 38 ∧ c ≠ 124
def LeafA (Kd : List UInt8 → Prop) (W : List UInt8) : Prop := LeafP W ∧ Kd W
def FacP (Kd : List UInt8 → Prop) : Nat → List UInt8 → List UInt8 × Nat → Prop
  | 0, W, p => LeafA Kd W ∧ p = (W, 1)
  | n + 1, W, p => (LeafA Kd W ∧ p = (W, 1)) ∨ ∃ M, W = 40 :: (M ++ [41]) ∧ WantP (FacP Kd n) M p
variable {Kd : List UInt8 → Prop}

theorem TermP.mono {F G : List UInt8 → List UInt8 × Nat → Prop} (h : ∀ W p, F W p → G W p) {W : List UInt8} {p : List UInt8 × Nat} (t : TermP F W p) : TermP G W p := by
  obtain ⟨l, h1, h2, h3, h4⟩ := t
  exact ⟨l, h1, fun x hx => h _ _ (h2 x hx), h3, h4⟩
theorem WantP.mono {F G : List UInt8 → List UInt8 × Nat → Prop} (h : ∀ W p, F W p → G W p) {W : List UInt8} {p : List UInt8 × Nat} (t : WantP F W p) : WantP G W p := by
  obtain ⟨l, h1, h2, h3, h4⟩ := t
  exact ⟨l, h1, fun x hx => (h2 x hx).mono h, h3, h4⟩
theorem FacP.up (n : Nat) : ∀ W p, FacP Kd n W p → FacP Kd (n + 1) W p := by
  induction n with
  | zero => intro W p h; exact Or.inl h
  | succ n ih =>
    intro W p h
    rcases h with h | ⟨M, h1, h2⟩
    · exact Or.inl h
    · exact Or.inr ⟨M, h1, h2.mono ih⟩
theorem TermP.want {F : List UInt8 → List UInt8 × Nat → Prop} {W : List UInt8} {p : List UInt8 × Nat} (t : TermP F W p) : WantP F W p :=
  ⟨[(W, p)], by simp, by intro x hx; simp at hx; subst hx; exact t, by simp [jnl, ptl], by simp [wantV, jnl, ptl]⟩

/-- A text that is passed from depth b on: no bracket is closed that was opened before it, nothing is counted. -/
def Pass (b : Int) (M : List UInt8) : Prop := ∀ (W R : List UInt8) (k : Nat), W.drop k = M ++ R →
  (∀ (f : Nat) (n : Int), 1 ≤ n → cloI W (f + M.length) k n = cloI W f (k + M.length) n) ∧
  (∀ (f : Nat) (n : Int) (m : Nat), b ≤ n → cutNI W 124 (f + M.length) k n m = cutNI W 124 f (k + M.length) n m)
theorem drop_more {W A R : List UInt8} {k : Nat} (h : W.drop k = A ++ R) : W.drop (k + A.length) = R := by
  rw [← List.drop_drop, h, List.drop_left]
theorem Pass.nil {b : Int} : Pass b [] := fun W R k h => ⟨fun f n _ => rfl, fun f n m _ => rfl⟩
theorem Pass.append {b : Int} {A B : List UInt8} (h : Pass b A) (h2 : Pass b B) : Pass b (A ++ B) := by
  intro W R k hd
  rw [List.append_assoc] at hd
  obtain ⟨a1, a2⟩ := h W _ k hd
  obtain ⟨b1, b2⟩ := h2 W _ _ (drop_more hd)
  constructor
  · intro f n hn
    rw [List.length_append, show f + (A.length + B.length) = (f + B.length) + A.length from by omega, a1 _ n hn, b1 _ n hn, Nat.add_assoc]
  · intro f n m hn
    rw [List.length_append, show f + (A.length + B.length) = (f + B.length) + A.length from by omega, a2 _ n m hn, b2 _ n m hn, Nat.add_assoc]
theorem u8ne {c : UInt8} {m : UInt8} (h : c ≠ m) : c.toNat ≠ m.toNat := fun q => h (UInt8.toNat_inj.1 q)
theorem Pass.byte {b : Int} {c : UInt8} (h1 : c ≠ 40) (h2 : c ≠ 41) (h3 : c ≠ 124 ∨ 1 ≤ b) : Pass b [c] := by
  intro W R k hd
  obtain ⟨hk, hb, _⟩ := byt_drop hd
  have n1 : byt W k ≠ 40 := by rw [hb]; exact u8ne h1
  have n2 : byt W k ≠ 41 := by rw [hb]; exact u8ne h2
  constructor
  · intro f n hn
    show cloI W (f + 1) k n = cloI W f (k + 1) n
    rw [cloI, if_neg n1, if_neg n2]
  · intro f n m hn
    show cutNI W 124 (f + 1) k n m = cutNI W 124 f (k + 1) n m
    refine cutNI_o n1 n2 ?_
    rintro ⟨q1, q2⟩
    rcases h3 with h3 | h3
    · rw [hb] at q1; exact u8ne h3 q1
    · omega
theorem Pass.up {M : List UInt8} (h : Pass 0 M) : Pass 1 M := fun W R k hd => ⟨(h W R k hd).1, fun f n m hn => (h W R k hd).2 f n m (by omega)⟩
theorem Pass.brk {M : List UInt8} (h : Pass 1 M) : Pass 0 (40 :: (M ++ [41])) := by
  intro W R k hd
  have hd0 : W.drop k = 40 :: (M ++ (41 :: R)) := by rw [hd]; simp
  obtain ⟨hk, hb, hd1⟩ := byt_drop hd0
  obtain ⟨a1, a2⟩ := h W _ _ hd1
  obtain ⟨hk2, hb2, hd2⟩ := byt_drop (drop_more hd1)
  have hb : byt W k = 40 := hb
  have hb2 : byt W (k + 1 + M.length) = 41 := hb2
  have hl : (40 :: (M ++ [41])).length = M.length + 2 := by simp
  rw [hl]
  constructor
  · intro f n hn
    rw [show f + (M.length + 2) = ((f + 1) + M.length) + 1 from by omega]
    rw [cloI, if_pos hb, a1 _ _ (by omega), cloI, if_neg (by omega), if_pos hb2, if_neg (by omega)]
    rw [show n + 1 - 1 = n from by omega, show k + 1 + M.length + 1 = k + (M.length + 2) from by omega]
  · intro f n m hn
    rw [show f + (M.length + 2) = ((f + 1) + M.length) + 1 from by omega]
    rw [cutNI_40 hb, a2 _ _ _ (by omega), cutNI_41 hb2]
    rw [show n + 1 - 1 = n from by omega, show k + 1 + M.length + 1 = k + (M.length + 2) from by omega]
theorem Pass.cons {b : Int} {c : UInt8} {M : List UInt8} (h : Pass b [c]) (h2 : Pass b M) : Pass b (c :: M) := h.append h2
theorem Pass.ptl {b : Int} {c : UInt8} (hc : Pass b [c]) (l : List (List UInt8)) (h : ∀ x ∈ l, Pass b x) : Pass b (ptl c l) := by
  induction l with
  | nil => exact Pass.nil
  | cons w r ih => exact hc.cons ((h w (by simp)).append (ih (fun x hx => h x (by simp [hx]))))
theorem Pass.jnl {b : Int} {c : UInt8} (hc : Pass b [c]) (l : List (List UInt8)) (h : ∀ x ∈ l, Pass b x) : Pass b (jnl c l) := by
  cases l with
  | nil => exact Pass.nil
  | cons w r => exact (h w (by simp)).append (Pass.ptl hc r (fun x hx => h x (by simp [hx])))
theorem Pass.leaf {W : List UInt8} (h : LeafP W) : Pass 0 W := by
  induction W with
  | nil => exact Pass.nil
  | cons c r ih =>
    have hc := h c (by simp)
    exact (Pass.byte hc.1 hc.2.1 (Or.inl hc.2.2.2)).cons (ih (fun x hx => h x (by simp [hx])))
theorem TermP.pass {F : List UInt8 → List UInt8 × Nat → Prop} (hF : ∀ W p, F W p → Pass 0 W) {W : List UInt8} {p : List UInt8 × Nat} (t : TermP F W p) : Pass 0 W := by
  obtain ⟨l, h1, h2, h3, h4⟩ := t
  rw [h3]
  refine Pass.jnl (Pass.byte (by decide) (by decide) (Or.inl (by decide))) _ ?_
  intro x hx
  obtain ⟨y, hy, rfl⟩ := List.mem_map.1 hx
  exact hF _ _ (h2 y hy)
theorem WantP.pass {F : List UInt8 → List UInt8 × Nat → Prop} (hF : ∀ W p, F W p → Pass 0 W) {W : List UInt8} {p : List UInt8 × Nat} (t : WantP F W p) : Pass 1 W := by
  obtain ⟨l, h1, h2, h3, h4⟩ := t
  rw [h3]
  refine Pass.jnl (Pass.byte (by decide) (by decide) (Or.inr (by decide))) _ ?_
  intro x hx
  obtain ⟨y, hy, rfl⟩ := List.mem_map.1 hx
  exact ((h2 y hy).pass hF).up
theorem FacP.pass (n : Nat) : ∀ W p, FacP Kd n W p → Pass 0 W := by
  induction n with
  | zero => intro W p h; exact Pass.leaf h.1.1
  | succ n ih =>
    intro W p h
    rcases h with h | ⟨M, h1, h2⟩
    · exact Pass.leaf h.1.1
    · rw [h1]; exact (h2.pass ih).brk

/-- How many terms. -/
theorem cutN_ptl (l : List (List UInt8)) : ∀ (W : List UInt8) (k m : Nat), (∀ x ∈ l, Pass 0 x) → W.drop k = ptl 124 l → cutNI W 124 (ptl 124 l).length k 0 m = m + 1 + l.length := by
  induction l with
  | nil => intro W k m _ _; rfl
  | cons w r ih =>
    intro W k m h hd
    have hd0 : W.drop k = 124 :: (w ++ ptl 124 r) := hd
    obtain ⟨hk, hb, hd1⟩ := byt_drop hd0
    have hb : byt W k = 124 := hb
    show cutNI W 124 (124 :: (w ++ ptl 124 r)).length k 0 m = _
    rw [List.length_cons, cutNI_c (by omega) (by omega) ⟨hb, rfl⟩, List.length_append, Nat.add_comm w.length]
    rw [(h w (by simp) W _ _ hd1).2 _ 0 _ (Int.le_refl _), ih W _ _ (fun x hx => h x (by simp [hx])) (drop_more hd1)]
    simp; omega
theorem cutN_jnl (l : List (List UInt8)) (hl : l ≠ []) (h : ∀ x ∈ l, Pass 0 x) : cutN (jnl 124 l) 124 = l.length := by
  cases l with
  | nil => exact absurd rfl hl
  | cons w r =>
    unfold cutN
    show cutNI (w ++ ptl 124 r) 124 (w ++ ptl 124 r).length 0 0 0 = _
    rw [List.length_append, Nat.add_comm w.length]
    rw [(h w (by simp) (w ++ ptl 124 r) _ 0 rfl).2 _ 0 _ (Int.le_refl _), cutN_ptl r _ _ _ (fun x hx => h x (by simp [hx])) (drop_more (R := ptl 124 r) (k := 0) rfl)]
    simp; omega

/-- A bracket that may go. -/
def sp (X M Z : List UInt8) : Prop := (X.getLast? ≠ some 38 ∧ Z.head? ≠ some 38) ∨ cutN M 124 = 1

theorem last_ne {A X : List UInt8} {c : UInt8} (hX : X = [] ∨ X.getLast? = some c) (hc : c ≠ 38) (hA : A.getLast? ≠ some 38) : (A ++ X).getLast? ≠ some 38 := by
  rcases hX with h | h
  · subst h; simpa using hA
  · rw [List.getLast?_append, h]; simpa using hc
theorem head_ne {Z B : List UInt8} {c : UInt8} (hZ : Z = [] ∨ Z.head? = some c) (hc : c ≠ 38) (hB : B.head? ≠ some 38) : (Z ++ B).head? ≠ some 38 := by
  rcases hZ with h | h
  · subst h; simpa using hB
  · rw [List.head?_append, h]; simpa using hc
theorem phd_or (c : UInt8) (a : List (List UInt8)) : phd c a = [] ∨ (phd c a).getLast? = some c := by
  cases a with
  | nil => exact Or.inl rfl
  | cons w r => exact Or.inr (phd_last c _ (by simp))
theorem ptl_or (c : UInt8) (a : List (List UInt8)) : ptl c a = [] ∨ (ptl c a).head? = some c := by
  cases a with
  | nil => exact Or.inl rfl
  | cons w r => exact Or.inr rfl

def StepF (Kd : List UInt8 → Prop) (n : Nat) : Prop := ∀ V p X Y, FacP Kd n V p → V = X ++ 40 :: Y →
  (X = [] ∧ ∃ M m, n = m + 1 ∧ Y = M ++ [41] ∧ WantP (FacP Kd m) M p) ∨
  (∃ M Z, Y = M ++ 41 :: Z ∧ Pass 1 M ∧ ∀ A B, sp (A ++ X) M (Z ++ B) → FacP Kd n (X ++ M ++ Z) p)
def StepQ (Kd : List UInt8 → Prop) (n : Nat) (P : List UInt8 → List UInt8 × Nat → Prop) : Prop := ∀ V p X Y, P V p → V = X ++ 40 :: Y →
  ∃ M Z, Y = M ++ 41 :: Z ∧ Pass 1 M ∧ ∀ A B, A.getLast? ≠ some 38 → B.head? ≠ some 38 → sp (A ++ X) M (Z ++ B) → WantP (FacP Kd n) (X ++ M ++ Z) p

theorem want_one {F : List UInt8 → List UInt8 × Nat → Prop} (hF : ∀ W p, F W p → Pass 0 W) {M : List UInt8} {p : List UInt8 × Nat} (h : WantP F M p) (h1 : cutN M 124 = 1) : TermP F M p := by
  obtain ⟨l, a1, a2, a3, a4⟩ := h
  have hp : ∀ x ∈ l.map Prod.fst, Pass 0 x := by
    intro x hx
    obtain ⟨y, hy, rfl⟩ := List.mem_map.1 hx
    exact (a2 y hy).pass hF
  have := cutN_jnl (l.map Prod.fst) (by simpa using a1) hp
  rw [← a3, h1] at this
  cases l with
  | nil => exact absurd rfl a1
  | cons x r =>
    cases r with
    | cons y z => simp at this
    | nil =>
      have hx := a2 x (by simp)
      have e1 : M = x.1 := by rw [a3]; simp [jnl, ptl]
      have e2 : p = x.2 := by rw [a4]; simp [wantV, jnl, ptl]
      rw [e1, e2]; exact hx

theorem step_T (n : Nat) (h : StepF Kd n) : StepQ Kd n (TermP (FacP Kd n)) := by
  intro V p X Y hT hV
  obtain ⟨l, a1, a2, a3, a4⟩ := hT
  obtain ⟨l1, x, l2, X', Y', b1, b2, b3, b4⟩ := jnl_find 38 (by decide) Prod.fst l X Y (by rw [← a3, hV])
  have hx := a2 x (by rw [b1]; simp)
  rcases h x.1 x.2 X' Y' hx b2 with ⟨c1, M, m, c2, c3, c4⟩ | ⟨M, Z, c1, c2, c3⟩
  · subst c1; subst c2
    refine ⟨M, ptl 38 (l2.map Prod.fst), by rw [b4, c3]; simp, c4.pass (FacP.pass m), ?_⟩
    intro A B hA hB hs
    rw [b3, List.append_nil] at hs ⊢
    by_cases h1 : cutN M 124 = 1
    · -- one term: its factors come in
      obtain ⟨lm, d1, d2, d3, d4⟩ := want_one (FacP.pass m) c4 h1
      refine TermP.want ⟨l1 ++ lm ++ l2, by simp [d1], ?_, ?_, ?_⟩
      · intro y hy
        simp only [List.mem_append] at hy
        rcases hy with (hy | hy) | hy
        · exact a2 y (by rw [b1]; simp [hy])
        · exact FacP.up m _ _ (d2 y hy)
        · exact a2 y (by rw [b1]; simp [hy])
      · rw [List.map_append, List.map_append, jnl_splice _ _ _ _ (by simpa using d1), ← d3]
      · rw [a4, b1]
        by_cases ho : l1 = [] ∧ l2 = []
        · obtain ⟨rfl, rfl⟩ := ho
          simp [termV, d4]
        · have hlen : 1 ≤ l1.length + l2.length := by
            cases l1 with
            | cons _ _ => simp; omega
            | nil =>
              cases l2 with
              | cons _ _ => simp
              | nil => exact absurd ⟨rfl, rfl⟩ ho
          have hm1 : 1 ≤ lm.length := by
            cases lm with
            | nil => exact absurd rfl d1
            | cons _ _ => simp
          rw [termV_two (by simp; omega), termV_two (by simp; omega)]
          have e : asF x.2 = jnl 38 ((lm.map Prod.snd).map asF) := by
            cases lm with
            | nil => exact absurd rfl d1
            | cons y r =>
              cases r with
              | nil => rw [d4]; simp [termV, jnl, ptl]
              | cons z r => rw [d4, termV_two (by simp)]; simp [asF]
          simp only [List.map_append, List.map_cons]
          rw [jnl_one, jnl_splice _ _ _ _ (by simpa using d1), e]
    · -- alone in its term: its terms come in
      have hs' : (A ++ phd 38 (l1.map Prod.fst)).getLast? ≠ some 38 ∧ (ptl 38 (l2.map Prod.fst) ++ B).head? ≠ some 38 := by
        rcases hs with hs | hs
        · exact hs
        · exact absurd hs h1
      have e1 : l1 = [] := by
        apply Classical.byContradiction; intro q
        apply hs'.1
        rw [List.getLast?_append, phd_last 38 (l1.map Prod.fst) (by simpa using q)]; rfl
      have e2 : l2 = [] := by
        apply Classical.byContradiction; intro q
        apply hs'.2
        rw [List.head?_append, ptl_first 38 (l2.map Prod.fst) (by simpa using q)]; rfl
      subst e1; subst e2
      have e3 : p = x.2 := by rw [a4, b1]; simp [termV]
      rw [e3]
      simp only [List.map_nil, phd, ptl, List.nil_append, List.append_nil]
      exact c4.mono (FacP.up m)
  · refine ⟨M, Z ++ ptl 38 (l2.map Prod.fst), by rw [b4, c1]; simp, c2, ?_⟩
    intro A B hA hB hs
    rw [b3] at hs ⊢
    have hf := c3 (A ++ phd 38 (l1.map Prod.fst)) (ptl 38 (l2.map Prod.fst) ++ B) (by simpa using hs)
    refine TermP.want ⟨l1 ++ (X' ++ M ++ Z, x.2) :: l2, by simp, ?_, ?_, ?_⟩
    · intro y hy
      simp only [List.mem_append, List.mem_cons] at hy
      rcases hy with hy | hy | hy
      · exact a2 y (by rw [b1]; simp [hy])
      · subst hy; exact hf
      · exact a2 y (by rw [b1]; simp [hy])
    · rw [List.map_append, List.map_cons, jnl_one]; simp
    · rw [a4, b1]; simp

theorem wantV_splice (a m b : List (List UInt8 × Nat)) (p : List UInt8 × Nat) (hm : m ≠ []) (hp : p = wantV m) : wantV (a ++ p :: b) = wantV (a ++ m ++ b) := by
  unfold wantV
  refine Prod.ext ?_ ?_
  · simp only [List.map_append, List.map_cons]
    rw [jnl_one, jnl_splice _ _ _ _ (by simpa using hm), hp]; rfl
  · simp only [List.map_append, List.map_cons, List.sum_append, List.sum_cons]
    rw [hp]
    show _ + ((m.map Prod.snd).sum + _) = _
    omega
theorem step_W (n : Nat) (h : StepQ Kd n (TermP (FacP Kd n))) : StepQ Kd n (WantP (FacP Kd n)) := by
  intro V p X Y hW hV
  obtain ⟨l, a1, a2, a3, a4⟩ := hW
  obtain ⟨l1, x, l2, X', Y', b1, b2, b3, b4⟩ := jnl_find 124 (by decide) Prod.fst l X Y (by rw [← a3, hV])
  obtain ⟨M, Z, c1, c2, c3⟩ := h x.1 x.2 X' Y' (a2 x (by rw [b1]; simp)) b2
  refine ⟨M, Z ++ ptl 124 (l2.map Prod.fst), by rw [b4, c1]; simp, c2, ?_⟩
  intro A B hA hB hs
  rw [b3] at hs ⊢
  obtain ⟨lm, d1, d2, d3, d4⟩ := c3 (A ++ phd 124 (l1.map Prod.fst)) (ptl 124 (l2.map Prod.fst) ++ B) (last_ne (phd_or _ _) (by decide) hA) (head_ne (ptl_or _ _) (by decide) hB) (by simpa using hs)
  refine ⟨l1 ++ lm ++ l2, by simp [d1], ?_, ?_, ?_⟩
  · intro y hy
    simp only [List.mem_append] at hy
    rcases hy with (hy | hy) | hy
    · exact a2 y (by rw [b1]; simp [hy])
    · exact d2 y hy
    · exact a2 y (by rw [b1]; simp [hy])
  · rw [List.map_append, List.map_append, jnl_splice _ _ _ _ (by simpa using d1), ← d3]; simp
  · rw [a4, b1, List.map_append, List.map_append, List.map_append, List.map_cons]
    exact wantV_splice _ _ _ _ (by simpa using d1) d4

theorem leaf_no40 {W X Y : List UInt8} (h : LeafP W) (e : W = X ++ 40 :: Y) : False := (h 40 (by rw [e]; simp)).1 rfl
theorem step_F (n : Nat) : StepF Kd n := by
  induction n with
  | zero => intro V p X Y h e; exact (leaf_no40 h.1.1 e).elim
  | succ n ih =>
    intro V p X Y h e
    rcases h with h | ⟨M0, h1, h2⟩
    · exact (leaf_no40 h.1.1 e).elim
    · rw [h1] at e
      cases X with
      | nil =>
        left
        injection e with _ e
        exact ⟨rfl, M0, n, rfl, e.symm, h2⟩
      | cons c X =>
        right
        injection e with e0 e
        subst e0
        rcases List.append_eq_append_iff.1 e with ⟨q, e1, e2⟩ | ⟨q, e1, e2⟩
        · exfalso
          cases q with
          | nil => injection e2 with e3 _; exact absurd e3 (by decide)
          | cons c q => injection e2 with _ e3; simp at e3
        · cases q with
          | nil => injection e2 with e3 _; exact absurd e3 (by decide)
          | cons c q =>
            injection e2 with e3 e4
            subst e3
            obtain ⟨M, Z, c1, c2, c3⟩ := step_W n (step_T n ih) M0 p X q h2 e1
            refine ⟨M, Z ++ [41], by rw [e4, c1]; simp, c2, ?_⟩
            intro A B hs
            refine Or.inr ⟨X ++ M ++ Z, by simp, ?_⟩
            exact c3 (A ++ [40]) (41 :: B) (by simp) (by simp) (by simpa using hs)
theorem step_want (n : Nat) : StepQ Kd n (WantP (FacP Kd n)) := step_W n (step_T n (step_F n))

/-- No bracket may go: the text is plain. -/
def NS (W : List UInt8) : Prop := ∀ X M Z, W = X ++ 40 :: (M ++ 41 :: Z) → Pass 1 M → ¬ sp X M Z
def PlainF (Kd : List UInt8 → Prop) (n : Nat) : Prop := ∀ V p, FacP Kd n V p → ∀ A B, NS (A ++ V ++ B) → asF p = V ∧ (A.getLast? ≠ some 38 → B.head? ≠ some 38 → p = (V, 1))
theorem plain_T (n : Nat) (h : PlainF Kd n) {V : List UInt8} {p : List UInt8 × Nat} (hT : TermP (FacP Kd n) V p) (A B : List UInt8) (hA : A.getLast? ≠ some 38) (hB : B.head? ≠ some 38) (hN : NS (A ++ V ++ B)) : p = (V, 1) := by
  obtain ⟨l, a1, a2, a3, a4⟩ := hT
  have key : ∀ x ∈ l, asF x.2 = x.1 := by
    intro x hx
    obtain ⟨l1, l2, e⟩ := List.append_of_mem hx
    refine (h x.1 x.2 (a2 x hx) (A ++ phd 38 (l1.map Prod.fst)) (ptl 38 (l2.map Prod.fst) ++ B) ?_).1
    have : A ++ phd 38 (l1.map Prod.fst) ++ x.1 ++ (ptl 38 (l2.map Prod.fst) ++ B) = A ++ V ++ B := by
      rw [a3, e, List.map_append, List.map_cons, jnl_one]; simp
    rw [this]; exact hN
  cases l with
  | nil => exact absurd rfl a1
  | cons x r =>
    cases r with
    | nil =>
      have e1 : V = x.1 := by rw [a3]; simp [jnl, ptl]
      have e2 : p = x.2 := by rw [a4]; simp [termV]
      rw [e1] at hN ⊢
      rw [e2]
      exact (h x.1 x.2 (a2 x (by simp)) A B hN).2 hA hB
    | cons y r =>
      rw [a4, termV_two (by simp), a3, List.map_map]
      congr 2
      exact List.map_congr_left key
theorem plain_W (n : Nat) (h : PlainF Kd n) {V : List UInt8} {p : List UInt8 × Nat} (hW : WantP (FacP Kd n) V p) (A B : List UInt8) (hA : A.getLast? ≠ some 38) (hB : B.head? ≠ some 38) (hN : NS (A ++ V ++ B)) : p = (V, cutN V 124) := by
  obtain ⟨l, a1, a2, a3, a4⟩ := hW
  have key : ∀ x ∈ l, x.2 = (x.1, 1) := by
    intro x hx
    obtain ⟨l1, l2, e⟩ := List.append_of_mem hx
    refine plain_T n h (a2 x hx) (A ++ phd 124 (l1.map Prod.fst)) (ptl 124 (l2.map Prod.fst) ++ B) (last_ne (phd_or _ _) (by decide) hA) (head_ne (ptl_or _ _) (by decide) hB) ?_
    have : A ++ phd 124 (l1.map Prod.fst) ++ x.1 ++ (ptl 124 (l2.map Prod.fst) ++ B) = A ++ V ++ B := by
      rw [a3, e, List.map_append, List.map_cons, jnl_one]; simp
    rw [this]; exact hN
  have hp : ∀ x ∈ l.map Prod.fst, Pass 0 x := by
    intro x hx
    obtain ⟨y, hy, rfl⟩ := List.mem_map.1 hx
    exact (a2 y hy).pass (FacP.pass n)
  have hc := cutN_jnl (l.map Prod.fst) (by simpa using a1) hp
  rw [← a3] at hc
  rw [a4, hc]
  unfold wantV
  refine Prod.ext ?_ ?_
  · rw [a3, List.map_map]
    show jnl 124 _ = jnl 124 _
    congr 1
    exact List.map_congr_left (fun x hx => by show x.2.1 = x.1; rw [key x hx])
  · show ((l.map Prod.snd).map Prod.snd).sum = (l.map Prod.fst).length
    rw [List.map_map, List.length_map]
    clear hc hp a4 a3 a2 a1 hN
    induction l with
    | nil => rfl
    | cons x r ih =>
      have := ih (fun y hy => key y (by simp [hy]))
      simp only [List.map_cons, List.sum_cons, List.length_cons, this]
      show x.2.2 + _ = _
      rw [key x (by simp)]; omega
theorem plain_F (n : Nat) : PlainF Kd n := by
  have leaf : ∀ V p, LeafP V ∧ p = (V, 1) → ∀ A B : List UInt8, asF p = V ∧ (A.getLast? ≠ some 38 → B.head? ≠ some 38 → p = (V, 1)) := by
    rintro V p ⟨h, rfl⟩ A B
    exact ⟨by simp [asF], fun _ _ => rfl⟩
  induction n with
  | zero => intro V p h A B hN; exact leaf V p ⟨h.1.1, h.2⟩ A B
  | succ n ih =>
    intro V p h A B hN
    rcases h with h | ⟨M, h1, h2⟩
    · exact leaf V p ⟨h.1.1, h.2⟩ A B
    · have hs := hN A M B (by rw [h1]; simp) (h2.pass (FacP.pass n))
      have hc : cutN M 124 ≠ 1 := fun q => hs (Or.inr q)
      have hp := plain_W n ih h2 (A ++ [40]) (41 :: B) (by simp) (by simp) (by rw [h1] at hN; simpa using hN)
      have hpos := (cutN_pos M 124).1
      refine ⟨?_, fun q1 q2 => absurd (Or.inl ⟨q1, q2⟩) hs⟩
      rw [hp, h1]
      unfold asF
      rw [if_pos (by show 1 < cutN M 124; omega)]
theorem plain_want (n : Nat) {V : List UInt8} {p : List UInt8 × Nat} (h : WantP (FacP Kd n) V p) (hN : NS V) : p.1 = V := by
  have := plain_W n (plain_F n) h [] [] (by simp) (by simp) (by simpa using hN)
  rw [this]


end Go.Proofs.YtanknpmojblmcaaGreatDoor

/-
  Plain mathematics: a want that is written so is read so.
-/
set_option linter.unusedSimpArgs false
set_option linter.unusedVariables false
namespace Go.Proofs.YtanknpmojblmcaaGreatDoor

def StopF (R : List UInt8) : Prop := R.head? = none ∨ R.head? = some 38 ∨ R.head? = some 124 ∨ R.head? = some 41 ∨ R.head? = some 10
def StopT (R : List UInt8) : Prop := R.head? = none ∨ R.head? = some 124 ∨ R.head? = some 41 ∨ R.head? = some 10
def StopW (R : List UInt8) : Prop := R.head? = none ∨ R.head? = some 41 ∨ R.head? = some 10
theorem StopT.f {R : List UInt8} (h : StopT R) : StopF R := by
  rcases h with h | h | h | h
  · exact Or.inl h
  · exact Or.inr (Or.inr (Or.inl h))
  · exact Or.inr (Or.inr (Or.inr (Or.inl h)))
  · exact Or.inr (Or.inr (Or.inr (Or.inr h)))
theorem StopW.t {R : List UInt8} (h : StopW R) : StopT R := by
  rcases h with h | h | h
  · exact Or.inl h
  · exact Or.inr (Or.inr (Or.inl h))
  · exact Or.inr (Or.inr (Or.inr h))

theorem byt_head {L R : List UInt8} {i : Nat} (h : L.drop i = R) : byt L i = (R.head?.map UInt8.toNat).getD 0 := by
  cases R with
  | nil =>
    have : L.length ≤ i := by
      apply Classical.byContradiction; intro q
      rw [List.drop_eq_getElem_cons (by omega)] at h; cases h
    rw [byt_out this]; rfl
  | cons c r => rw [(byt_drop h).2.1]; rfl
theorem sk_head {L R : List UInt8} {i : Nat} {c : UInt8} (h : L.drop i = R) (h0 : c.toNat ≠ 0) : sk L c.toNat (i, false) = decide (R.head? = some c) := by
  have hb := byt_head h
  cases R with
  | nil =>
    have e : byt L i = 0 := hb
    simp [sk, e]
    intro _ q; exact h0 q.symm
  | cons d r =>
    have hk := (byt_drop h).1
    have e : byt L i = d.toNat := hb
    simp only [sk, e, List.head?_cons]
    by_cases q : d = c
    · subst q; simp [hk]
    · have : d.toNat ≠ c.toNat := fun z => q (UInt8.toNat_inj.1 z)
      simp [q, this]
theorem drop_len {L A R : List UInt8} {i : Nat} (h : L.drop i = A ++ R) : i + A.length + R.length = L.length ∨ (A = [] ∧ R = []) := by
  have := congrArg List.length h
  simp at this
  by_cases hi : i ≤ L.length
  · left; omega
  · right
    constructor
    · apply List.eq_nil_of_length_eq_zero; omega
    · apply List.eq_nil_of_length_eq_zero; omega
theorem cut_of_drop {L A R : List UInt8} {i : Nat} (h : L.drop i = A ++ R) : cut L i (i + A.length) = A := by
  unfold cut
  rw [h, show i + A.length - i = A.length from by omega, List.take_left]
theorem wd_of {L : List UInt8} : ∀ (W R : List UInt8) (i : Nat), (∀ c ∈ W, c.toNat ≠ 0) → L.drop i = W ++ R → wd L W (i, false) = (i + W.length, false)
  | [], R, i, hc, h => rfl
  | c :: W, R, i, hc, h => by
    have hs := sk_head (c := c) h (hc c (by simp))
    unfold wd
    rw [hs, if_pos (by simp), wd_of W R (i + 1) (fun d hd => hc d (by simp [hd])) (byt_drop h).2.2]
    simp; omega

/-- An atom that is read as itself. -/
def AtomP (W : List UInt8) : Prop := W ≠ [] ∧ W.head? ≠ some 40 ∧ ∀ L i R, L.drop i = W ++ R → StopF R → leafS L (i, false) = (i + W.length, false)

/-- What a part of the reader makes of such a text. -/
def Reads (P : List UInt8 → List UInt8 × Nat → Prop) (S : List UInt8 → Prop) (F : List UInt8 → Nat × Bool → (List UInt8 × Nat) × (Nat × Bool)) : Prop :=
  ∀ W p L i R, P W p → L.drop i = W ++ R → S R → F L (i, false) = (p, (i + W.length, false))

theorem ptl_len (c : UInt8) (l : List (List UInt8)) : l.length ≤ (ptl c l).length := by
  induction l with
  | nil => simp
  | cons w r ih => simp [ptl]; omega
theorem reads_termL {P : List UInt8 → List UInt8 × Nat → Prop} {F : List UInt8 → Nat × Bool → (List UInt8 × Nat) × (Nat × Bool)} (hF : Reads P StopF F) (L R : List UInt8) (hR : StopT R) :
    ∀ (l : List (List UInt8 × (List UInt8 × Nat))) (i n : Nat) (t : List UInt8), (∀ x ∈ l, P x.1 x.2) → L.drop i = ptl 38 (l.map Prod.fst) ++ R → l.length ≤ n →
    termL L (F L) n (i, false) t = (t ++ ptl 38 ((l.map Prod.snd).map asF), (i + (ptl 38 (l.map Prod.fst)).length, false))
  | [], i, n, t, hl, hd, hn => by
    have hs : sk L 38 (i, false) = false := by
      have e := sk_head (c := 38) (R := R) (i := i) (L := L) (by simpa [ptl] using hd) (by decide)
      have e2 : decide (R.head? = some 38) = false := by
        rcases hR with h | h | h | h <;> rw [h] <;> decide
      rw [e2] at e; exact e
    have : termL L (F L) n (i, false) t = (t, (i, false)) := by
      cases n <;> simp [termL, hs]
    rw [this]; simp [ptl]
  | x :: r, i, n, t, hl, hd, hn => by
    have hd0 : L.drop i = 38 :: (x.1 ++ (ptl 38 (r.map Prod.fst) ++ R)) := by rw [hd]; simp [ptl]
    have hs : sk L 38 (i, false) = true := by
      have e := sk_head (c := 38) hd0 (by decide)
      simpa using e
    obtain ⟨m, rfl⟩ : ∃ m, n = m + 1 := ⟨n - 1, by simp at hn; omega⟩
    have hd1 := (byt_drop hd0).2.2
    have hst : StopF (ptl 38 (r.map Prod.fst) ++ R) := by
      cases r with
      | nil => simpa [ptl] using hR.f
      | cons y z => exact Or.inr (Or.inl rfl)
    have hx := hF x.1 x.2 L (i + 1) _ (hl x (by simp)) hd1 hst
    have hd2 := drop_more hd1
    have ih := reads_termL hF L R hR r (i + 1 + x.1.length) m (t ++ 38 :: asF x.2) (fun y hy => hl y (by simp [hy])) hd2 (by simp at hn; omega)
    unfold termL
    rw [hs, if_pos rfl]
    simp only
    rw [hx]
    simp only
    rw [ih]
    simp [ptl]; omega
theorem reads_termF {P : List UInt8 → List UInt8 × Nat → Prop} {F : List UInt8 → Nat × Bool → (List UInt8 × Nat) × (Nat × Bool)} (hF : Reads P StopF F) : Reads (TermP P) StopT (fun L => termF L (F L)) := by
  intro W p L i R hT hd hR
  obtain ⟨l, h1, h2, h3, h4⟩ := hT
  cases l with
  | nil => exact absurd rfl h1
  | cons x r =>
    have hd0 : L.drop i = x.1 ++ (ptl 38 (r.map Prod.fst) ++ R) := by rw [hd, h3]; simp [jnl]
    have hst : StopF (ptl 38 (r.map Prod.fst) ++ R) := by
      cases r with
      | nil => simpa [ptl] using hR.f
      | cons y z => exact Or.inr (Or.inl rfl)
    have hx := hF x.1 x.2 L i _ (h2 x (by simp)) hd0 hst
    have hd1 := drop_more hd0
    have hb := byt_head hd1
    show termF L (F L) (i, false) = _
    unfold termF
    rw [hx]
    simp only
    have hpk : pk L (i + x.1.length, false) = byt L (i + x.1.length) := rfl
    cases r with
    | nil =>
      have hne : ¬ pk L (i + x.1.length, false) = 38 := by
        rw [hpk, hb]
        rcases hR with h | h | h | h <;> simp [ptl, h]
      rw [if_neg hne, h4, h3]
      simp [termV, jnl, ptl]
    | cons y z =>
      have he : pk L (i + x.1.length, false) = 38 := by rw [hpk, hb]; rfl
      rw [if_pos he]
      have hlen : (y :: z).length ≤ L.length := by
        have q := ptl_len 38 ((y :: z).map Prod.fst)
        rcases drop_len hd1 with e | ⟨e, _⟩
        · simp at q e ⊢; omega
        · rw [e] at q; simp at q
      have := reads_termL hF L R hR (y :: z) (i + x.1.length) L.length (asF x.2) (fun u hu => h2 u (by simp at hu ⊢; right; exact hu)) hd1 hlen
      rw [this, h4, h3, termV_two (by simp)]
      simp [jnl]; omega
theorem reads_wantL {P : List UInt8 → List UInt8 × Nat → Prop} {F : List UInt8 → Nat × Bool → (List UInt8 × Nat) × (Nat × Bool)} (hF : Reads P StopT (fun L => termF L (F L))) (L R : List UInt8) (hR : StopW R) :
    ∀ (l : List (List UInt8 × (List UInt8 × Nat))) (i n : Nat) (t : List UInt8 × Nat), (∀ x ∈ l, P x.1 x.2) → L.drop i = ptl 124 (l.map Prod.fst) ++ R → l.length ≤ n →
    wantL L (F L) n (i, false) t = ((t.1 ++ ptl 124 ((l.map Prod.snd).map Prod.fst), t.2 + ((l.map Prod.snd).map Prod.snd).sum), (i + (ptl 124 (l.map Prod.fst)).length, false))
  | [], i, n, t, hl, hd, hn => by
    have hs : sk L 124 (i, false) = false := by
      have e := sk_head (c := 124) (R := R) (i := i) (L := L) (by simpa [ptl] using hd) (by decide)
      have e2 : decide (R.head? = some 124) = false := by
        rcases hR with h | h | h <;> rw [h] <;> decide
      rw [e2] at e; exact e
    have : wantL L (F L) n (i, false) t = (t, (i, false)) := by
      cases n <;> simp [wantL, hs]
    rw [this]; simp [ptl]
  | x :: r, i, n, t, hl, hd, hn => by
    have hd0 : L.drop i = 124 :: (x.1 ++ (ptl 124 (r.map Prod.fst) ++ R)) := by rw [hd]; simp [ptl]
    have hs : sk L 124 (i, false) = true := by
      have e := sk_head (c := 124) hd0 (by decide)
      simpa using e
    obtain ⟨m, rfl⟩ : ∃ m, n = m + 1 := ⟨n - 1, by simp at hn; omega⟩
    have hd1 := (byt_drop hd0).2.2
    have hst : StopT (ptl 124 (r.map Prod.fst) ++ R) := by
      cases r with
      | nil => simpa [ptl] using hR.t
      | cons y z => exact Or.inr (Or.inl rfl)
    have hx : termF L (F L) (i + 1, false) = _ := hF x.1 x.2 L (i + 1) _ (hl x (by simp)) hd1 hst
    have hd2 := drop_more hd1
    have ih := reads_wantL hF L R hR r (i + 1 + x.1.length) m (t.1 ++ 124 :: x.2.1, t.2 + x.2.2) (fun y hy => hl y (by simp [hy])) hd2 (by simp at hn; omega)
    unfold wantL
    rw [hs, if_pos rfl]
    simp only
    rw [hx]
    simp only
    rw [ih]
    simp [ptl]; omega
theorem reads_wantF {P : List UInt8 → List UInt8 × Nat → Prop} {F : List UInt8 → Nat × Bool → (List UInt8 × Nat) × (Nat × Bool)} (hF : Reads P StopF F) : Reads (WantP P) StopW (fun L => wantF L (F L)) := by
  have hT := reads_termF hF
  intro W p L i R hW hd hR
  obtain ⟨l, h1, h2, h3, h4⟩ := hW
  cases l with
  | nil => exact absurd rfl h1
  | cons x r =>
    have hd0 : L.drop i = x.1 ++ (ptl 124 (r.map Prod.fst) ++ R) := by rw [hd, h3]; simp [jnl]
    have hst : StopT (ptl 124 (r.map Prod.fst) ++ R) := by
      cases r with
      | nil => simpa [ptl] using hR.t
      | cons y z => exact Or.inr (Or.inl rfl)
    have hx : termF L (F L) (i, false) = _ := hT x.1 x.2 L i _ (h2 x (by simp)) hd0 hst
    have hd1 := drop_more hd0
    have hlen : r.length ≤ L.length := by
      have q := ptl_len 124 (r.map Prod.fst)
      rcases drop_len hd1 with e | ⟨e, _⟩
      · simp at q e ⊢; omega
      · rw [e] at q; simp at q; rw [q]; simp
    have := reads_wantL hT L R hR r (i + x.1.length) L.length x.2 (fun u hu => h2 u (by simp [hu])) hd1 hlen
    show wantF L (F L) (i, false) = _
    unfold wantF
    rw [hx]
    simp only
    rw [this, h4, h3]
    simp [wantV, jnl]; omega
theorem reads_fac (n : Nat) : Reads (FacP AtomP n) StopF (fun L => fac L n) := by
  have leaf : ∀ W p L i R, LeafA AtomP W ∧ p = (W, 1) → L.drop i = W ++ R → StopF R → pk L (i, false) ≠ 40 ∧ ((cut L i (leafS L (i, false)).1, 1), leafS L (i, false)) = (p, (i + W.length, false)) := by
    intro W p L i R h hd hR
    obtain ⟨⟨_, h1, h2, h3⟩, rfl⟩ := h
    have hb := byt_head hd
    rw [h3 L i R hd hR, cut_of_drop hd]
    refine ⟨?_, rfl⟩
    show byt L i ≠ 40
    rw [hb]
    cases W with
    | nil => exact absurd rfl h1
    | cons c r =>
      simp at h2 ⊢
      exact fun q => h2 (UInt8.toNat_inj.1 q)
  induction n with
  | zero =>
    intro W p L i R h hd hR
    obtain ⟨q1, q2⟩ := leaf W p L i R h hd hR
    show fac L 0 (i, false) = _
    unfold fac
    rw [if_neg q1]; exact q2
  | succ n ih =>
    intro W p L i R h hd hR
    show fac L (n + 1) (i, false) = _
    rcases h with h | ⟨M, rfl, hM⟩
    · obtain ⟨q1, q2⟩ := leaf W p L i R h hd hR
      unfold fac
      rw [if_neg q1]; exact q2
    · have hd0 : L.drop i = 40 :: (M ++ (41 :: R)) := by rw [hd]; simp
      have hb : byt L i = 40 := byt_head hd0
      have hd1 := (byt_drop hd0).2.2
      have hw : wantF L (fac L n) (i + 1, false) = _ := reads_wantF ih M p L (i + 1) _ hM hd1 (Or.inr (Or.inl rfl))
      have hd2 := drop_more hd1
      have h40 : wd L [40] (i, false) = (i + 1, false) := wd_of [40] (M ++ (41 :: R)) i (by simp) hd0
      have h41 : wd L [41] (i + 1 + M.length, false) = (i + 1 + M.length + 1, false) := wd_of [41] R _ (by simp) hd2
      unfold fac
      rw [if_pos (by show byt L i = 40; exact hb), h40, hw]
      simp only
      rw [h41]
      simp; omega
/-- A want that is written so is read so. -/
theorem reads_want : Reads (WantP (FacP AtomP 4)) StopW (fun L => wantF L (fac L 4)) := reads_wantF (reads_fac 4)

/-- A bracket and its partner. -/
theorem clo_at {W X M Z : List UInt8} (e : W = X ++ 40 :: (M ++ 41 :: Z)) (hM : Pass 1 M) : byt W X.length = 40 ∧ clo W X.length = X.length + 1 + M.length ∧ X.length + 1 + M.length < W.length := by
  have hl : W.length = X.length + 1 + M.length + 1 + Z.length := by rw [e]; simp; omega
  have hd0 : W.drop X.length = 40 :: (M ++ 41 :: Z) := by rw [e]; exact List.drop_left
  obtain ⟨hk, hb, hd1⟩ := byt_drop hd0
  obtain ⟨hk2, hb2, hd2⟩ := byt_drop (drop_more hd1)
  have hb : byt W X.length = 40 := hb
  have hb2 : byt W (X.length + 1 + M.length) = 41 := hb2
  refine ⟨hb, ?_, by omega⟩
  unfold clo
  rw [show W.length - X.length = ((Z.length + 1) + M.length) + 1 from by omega, cloI, if_pos hb, (hM W _ _ hd1).1 _ _ (by omega), cloI, if_neg (by omega), if_pos hb2, if_pos (by omega)]
/-- The plain form of a want is a want, with itself as its plain form; it is no longer. -/
theorem plain_stable (n : Nat) : ∀ (f : Nat) (W : List UInt8) (p : List UInt8 × Nat), W.length ≤ f → WantP (FacP AtomP n) W p → WantP (FacP AtomP n) p.1 p ∧ p.1.length ≤ W.length := by
  intro f
  induction f with
  | zero =>
    intro W p hl h
    have hN : NS W := by
      intro X M Z e
      have : W = [] := List.eq_nil_of_length_eq_zero (by omega)
      rw [this] at e; simp at e
    have := plain_want n h hN
    rw [this]; exact ⟨h, Nat.le_refl _⟩
  | succ f ih =>
    intro W p hl h
    by_cases hN : NS W
    · have := plain_want n h hN
      rw [this]; exact ⟨h, Nat.le_refl _⟩
    · unfold NS at hN
      simp only [Classical.not_forall, not_imp, Classical.not_not] at hN
      obtain ⟨X, M', Z', e, hM', hs⟩ := hN
      obtain ⟨M, Z, e2, hM, hstep⟩ := step_want n W p X (M' ++ 41 :: Z') h e
      obtain ⟨_, q1, _⟩ := clo_at e hM'
      obtain ⟨_, q2, _⟩ := clo_at (e.trans (by rw [e2])) hM
      have hl2 : M'.length = M.length := by omega
      obtain ⟨rfl, e3⟩ := List.append_inj e2 hl2
      injection e3 with _ e3
      subst e3
      have hw := hstep [] [] (by simp) (by simp) (by simpa using hs)
      have hlen : (X ++ M' ++ Z').length + 2 = W.length := by rw [e]; simp; omega
      obtain ⟨r1, r2⟩ := ih (X ++ M' ++ Z') p (by omega) hw
      exact ⟨r1, by omega⟩

end Go.Proofs.YtanknpmojblmcaaGreatDoor
