/-
  Plain functions on texts: how the program's reader goes through the lines; which error is told.
-/
import Derived.Test.YtkmdmlpkbidpoaaSpec3
set_option linter.unusedSimpArgs false
set_option linter.unusedVariables false
namespace Go.Proofs.Ytkmdmlpkbidpoaa

/-- One line: the heads so far, and the state behind it. -/
def lineH (L : List UInt8) (s : Nat × Bool) (hs : List HV) : List HV × (Nat × Bool) :=
  if seesB L s.1 then (hs ++ [(headH L s).1], (headH L s).2) else (hs, (toNl L s.1, s.2))
def hdsL (L : List UInt8) : Nat → Nat × Bool → List HV → List HV × (Nat × Bool)
  | 0, s, hs => (hs, s)
  | n + 1, s, hs => if sk L 10 (lineH L s hs).2 then hdsL L n ((lineH L s hs).2.1 + 1, (lineH L s hs).2.2) (lineH L s hs).1 else lineH L s hs
def hdsR (L : List UInt8) : List HV × (Nat × Bool) :=
  ((hdsL L (L.length + 1) (0, false) []).1,
   ((hdsL L (L.length + 1) (0, false) []).2.1,
    (hdsL L (L.length + 1) (0, false) []).2.2 || decide ((hdsL L (L.length + 1) (0, false) []).2.1 < L.length) || (hdsL L (L.length + 1) (0, false) []).1.isEmpty))

theorem toNl_goes (L : List UInt8) (i : Nat) (h : i ≤ L.length) : i ≤ toNl L i ∧ toNl L i ≤ L.length := by
  unfold toNl
  have := (List.takeWhile_sublist (l := L.drop i) (fun c => c != 10)).length_le
  simp only [List.length_drop] at this
  omega
theorem lineH_goes (L : List UInt8) (s : Nat × Bool) (hs : List HV) (h : s.1 ≤ L.length) : Goes L s (lineH L s hs).2 := by
  unfold lineH
  split
  · exact headH_goes L s h
  · exact toNl_goes L s.1 h
theorem lineH_len (L : List UInt8) (s : Nat × Bool) (hs : List HV) : (lineH L s hs).1.length ≤ hs.length + 1 := by
  unfold lineH; split <;> simp

/-- The first number that may not be. -/
def beyH : List HV → Nat × Bool
  | [] => (0, false)
  | h :: r =>
    if h.nodes < 1 ∨ h.nodes > 8 then (h.nodesAt, true)
    else if h.time < 1 ∨ h.time > 12 then (h.timeAt, true)
    else if h.arr = true ∧ (h.lo > h.hi ∨ h.hi - h.lo ≥ 6) then (h.arrayAt, true)
    else beyH r
/-- The first name that an earlier head has. -/
def twiH (before : List HV) : List HV → Nat × Bool
  | [] => (0, false)
  | h :: r => if before.any (fun g => g.name == h.name) then (h.nameAt, true) else twiH (before ++ [h]) r

/-- What Read of the package head answers: heads, error, place. -/
def readH (L : List UInt8) : List HV × (Nat × Nat) :=
  if L.length > 600 then ([], (1, 0))
  else if (hdsR L).2.2 then ([], (2, (hdsR L).2.1))
  else if (beyH (hdsR L).1).2 then ([], (3, (beyH (hdsR L).1).1))
  else if (twiH [] (hdsR L).1).2 then ([], (4, (twiH [] (hdsR L).1).1))
  else ((hdsR L).1, (0, 0))

theorem hdsL_len (L : List UInt8) (n : Nat) : ∀ (s : Nat × Bool) (hs : List HV), (hdsL L n s hs).1.length ≤ hs.length + n := by
  induction n with
  | zero => intro s hs; simp [hdsL]
  | succ n ih =>
    intro s hs
    have h1 := lineH_len L s hs
    unfold hdsL
    split
    · have := ih ((lineH L s hs).2.1 + 1, (lineH L s hs).2.2) (lineH L s hs).1
      omega
    · omega

/-- A head's numbers have at most two digits. -/
def Small (h : HV) : Prop := h.nodes ≤ 99 ∧ h.time ≤ 99 ∧ h.lo ≤ 99 ∧ h.hi ≤ 99
theorem aftH_small {L : List UInt8} {h : HV} {s : Nat × Bool} (hh : Small h) : Small (aftH L h s).1 := hh
theorem arrH_small {L : List UInt8} {h : HV} {s : Nat × Bool} (hh : Small h) : Small (arrH L h s).1 := ⟨hh.1, hh.2.1, numV_le L _, numV_le L _⟩
theorem optH_small {L : List UInt8} {h : HV} {s : Nat × Bool} (hh : Small h) : Small (optH L h s).1 := by
  unfold optH
  split
  · split
    · split
      · exact aftH_small (arrH_small hh)
      · exact arrH_small hh
    · exact aftH_small hh
  · exact hh
theorem headH_small (L : List UInt8) (s : Nat × Bool) : Small (headH L s).1 := optH_small ⟨numV_le L _, numV_le L _, Nat.zero_le _, Nat.zero_le _⟩
theorem lineH_small {L : List UInt8} {s : Nat × Bool} {hs : List HV} (h : ∀ x ∈ hs, Small x) : ∀ x ∈ (lineH L s hs).1, Small x := by
  unfold lineH
  split
  · intro x hx
    simp at hx
    rcases hx with hx | rfl
    · exact h x hx
    · exact headH_small L s
  · exact h
theorem hdsL_small (L : List UInt8) (n : Nat) : ∀ (s : Nat × Bool) (hs : List HV), (∀ x ∈ hs, Small x) → ∀ x ∈ (hdsL L n s hs).1, Small x := by
  induction n with
  | zero => intro s hs h; exact h
  | succ n ih =>
    intro s hs h
    unfold hdsL
    split
    · exact ih _ _ (lineH_small h)
    · exact lineH_small h
theorem hdsR_small (L : List UInt8) : ∀ x ∈ (hdsR L).1, Small x := hdsL_small L _ _ _ (by simp)
theorem hdsR_len (L : List UInt8) : (hdsR L).1.length ≤ L.length + 1 := by
  have := hdsL_len L (L.length + 1) (0, false) []
  simpa [hdsR] using this

end Go.Proofs.Ytkmdmlpkbidpoaa
