/-
  Plain functions on texts: how the program's reader reads a head, and all heads.
-/
import Derived.Test.YtanknpmojblmcaaGreatDoorSpec2
set_option linter.unusedSimpArgs false
set_option linter.unusedVariables false
namespace Go.Proofs.YtanknpmojblmcaaGreatDoor

/-- A head, as the program has it. -/
structure HV where
  name : List UInt8
  nodes : Nat
  time : Nat
  arr : Bool
  lo : Nat
  hi : Nat
  after : List UInt8
  nameAt : Nat
  nodesAt : Nat
  timeAt : Nat
  arrayAt : Nat
  want : List Stp

def hv0 : HV := ⟨[], 0, 0, false, 0, 0, [], 0, 0, 0, 0, []⟩

def aftH (L : List UInt8) (h : HV) (s : Nat × Bool) : HV × (Nat × Bool) :=
  ({ h with after := (wantF L (fac L 4) (wd L [102, 116, 101, 114, 61] s)).1.1, want := wantQ L (fac L 4) (facQ L 4) (wd L [102, 116, 101, 114, 61] s) }, (wantF L (fac L 4) (wd L [102, 116, 101, 114, 61] s)).2)
def arrH (L : List UInt8) (h : HV) (s : Nat × Bool) : HV × (Nat × Bool) :=
  ({ h with arr := true, arrayAt := s.1, lo := numV L s, hi := numV L (wd L [45] (numS L s)) }, numS L (wd L [45] (numS L s)))
def optH (L : List UInt8) (h : HV) (s : Nat × Bool) : HV × (Nat × Bool) :=
  if sk L 32 s then
    if pk L (wd L [97] (s.1 + 1, s.2)) = 114 then
      if sk L 32 (arrH L h (wd L [114, 114, 97, 121, 61] (wd L [97] (s.1 + 1, s.2)))).2 then
        aftH L (arrH L h (wd L [114, 114, 97, 121, 61] (wd L [97] (s.1 + 1, s.2)))).1 (wd L [97] ((arrH L h (wd L [114, 114, 97, 121, 61] (wd L [97] (s.1 + 1, s.2)))).2.1 + 1, (arrH L h (wd L [114, 114, 97, 121, 61] (wd L [97] (s.1 + 1, s.2)))).2.2))
      else arrH L h (wd L [114, 114, 97, 121, 61] (wd L [97] (s.1 + 1, s.2)))
    else aftH L h (wd L [97] (s.1 + 1, s.2))
  else (h, s)
/-- What stands ahead of the options. -/
def hed1 (L : List UInt8) (s : Nat × Bool) : Nat × Bool := wd L [35, 74, 32] s
def hed2 (L : List UInt8) (s : Nat × Bool) : Nat × Bool := wd L [32, 110, 111, 100, 101, 115, 61] (nmS L (hed1 L s))
def hed3 (L : List UInt8) (s : Nat × Bool) : Nat × Bool := wd L [32, 116, 105, 109, 101, 61] (numS L (hed2 L s))
def hed4 (L : List UInt8) (s : Nat × Bool) : Nat × Bool := numS L (hed3 L s)
def hedV (L : List UInt8) (s : Nat × Bool) : HV :=
  { name := cut L (hed1 L s).1 (nmS L (hed1 L s)).1, nodes := numV L (hed2 L s), time := numV L (hed3 L s), arr := false, lo := 0, hi := 0, after := [], nameAt := (hed1 L s).1, nodesAt := (hed2 L s).1, timeAt := (hed3 L s).1, arrayAt := 0, want := [] }
def headH (L : List UInt8) (s : Nat × Bool) : HV × (Nat × Bool) := optH L (hedV L s) (hed4 L s)

theorem numV_le (L : List UInt8) (s : Nat × Bool) : numV L s ≤ 99 := by
  unfold numV
  split
  · rename_i h
    split
    · simp [digB] at h; omega
    · rename_i h2; simp [digB] at h h2; omega
  · omega

theorem aftH_goes (L : List UInt8) (h : HV) (s : Nat × Bool) (hs : s.1 ≤ L.length) : Goes L s (aftH L h s).2 := by
  have h1 := wd_goes L [102, 116, 101, 114, 61] s hs
  exact h1.trans (wantF_good (fac_good L 4) _ h1.2).1
theorem arrH_goes (L : List UInt8) (h : HV) (s : Nat × Bool) (hs : s.1 ≤ L.length) : Goes L s (arrH L h s).2 := by
  have h1 := numS_goes L s hs
  have h2 := wd_goes L [45] _ h1.2
  exact (h1.trans h2).trans (numS_goes L _ h2.2)
theorem sk_goes {L : List UInt8} {c : Nat} {s : Nat × Bool} (h : sk L c s = true) : Goes L s (s.1 + 1, s.2) := ⟨by simp, (sk_lt h).1⟩
theorem optH_goes (L : List UInt8) (h : HV) (s : Nat × Bool) (hs : s.1 ≤ L.length) : Goes L s (optH L h s).2 := by
  unfold optH
  split
  · rename_i h1
    have g1 := sk_goes h1
    have g2 := g1.trans (wd_goes L [97] _ g1.2)
    split
    · have g3 := g2.trans (wd_goes L [114, 114, 97, 121, 61] _ g2.2)
      have g4 := g3.trans (arrH_goes L h _ g3.2)
      split
      · rename_i h3
        have g5 := g4.trans (sk_goes h3)
        have g6 := g5.trans (wd_goes L [97] _ g5.2)
        exact g6.trans (aftH_goes L _ _ g6.2)
      · exact g4
    · exact g2.trans (aftH_goes L h _ g2.2)
  · exact ⟨Nat.le_refl _, hs⟩
theorem hed1_goes (L : List UInt8) (s : Nat × Bool) (hs : s.1 ≤ L.length) : Goes L s (hed1 L s) := wd_goes L _ s hs
theorem hed2_goes (L : List UInt8) (s : Nat × Bool) (hs : s.1 ≤ L.length) : Goes L s (hed2 L s) := by
  have h1 := hed1_goes L s hs
  have h2 := h1.trans (nmS_goes L _ h1.2)
  exact h2.trans (wd_goes L _ _ h2.2)
theorem hed3_goes (L : List UInt8) (s : Nat × Bool) (hs : s.1 ≤ L.length) : Goes L s (hed3 L s) := by
  have h1 := hed2_goes L s hs
  have h2 := h1.trans (numS_goes L _ h1.2)
  exact h2.trans (wd_goes L _ _ h2.2)
theorem hed4_goes (L : List UInt8) (s : Nat × Bool) (hs : s.1 ≤ L.length) : Goes L s (hed4 L s) := by
  have h1 := hed3_goes L s hs
  exact h1.trans (numS_goes L _ h1.2)
theorem headH_goes (L : List UInt8) (s : Nat × Bool) (hs : s.1 ≤ L.length) : Goes L s (headH L s).2 := by
  have h1 := hed4_goes L s hs
  exact h1.trans (optH_goes L _ _ h1.2)

/-- One line: the heads so far, and the state behind it. -/
def lineH (L : List UInt8) (s : Nat × Bool) (hs : List HV) : List HV × (Nat × Bool) :=
  if seesB L s.1 then (hs ++ [(headH L s).1], (headH L s).2) else (hs, (toNl L s.1, s.2))
def hdsL (L : List UInt8) : Nat → Nat × Bool → List HV → List HV × (Nat × Bool)
  | 0, s, hs => (hs, s)
  | n + 1, s, hs => if sk L 10 (lineH L s hs).2 then hdsL L n ((lineH L s hs).2.1 + 1, (lineH L s hs).2.2) (lineH L s hs).1 else lineH L s hs
def hdsR (L : List UInt8) : List HV × (Nat × Bool) :=
  ((hdsL L (L.length + 1) (0, false) []).1,
   ((hdsL L (L.length + 1) (0, false) []).2.1,
    (hdsL L (L.length + 1) (0, false) []).2.2 || decide ((hdsL L (L.length + 1) (0, false) []).2.1 < L.length) || (hdsL L (L.length + 1) (0, false) []).1.isEmpty))

theorem toNl_goes (L : List UInt8) (i : Nat) (h : i ≤ L.length) : i ≤ toNl L i ∧ toNl L i ≤ L.length := by
  unfold toNl
  have := (List.takeWhile_sublist (l := L.drop i) (fun c => c != 10)).length_le
  simp only [List.length_drop] at this
  omega
theorem lineH_goes (L : List UInt8) (s : Nat × Bool) (hs : List HV) (h : s.1 ≤ L.length) : Goes L s (lineH L s hs).2 := by
  unfold lineH
  split
  · exact headH_goes L s h
  · exact toNl_goes L s.1 h
theorem lineH_len (L : List UInt8) (s : Nat × Bool) (hs : List HV) : (lineH L s hs).1.length ≤ hs.length + 1 := by
  unfold lineH; split <;> simp

/-- The first number that may not be. -/
def beyH : List HV → Nat × Bool
  | [] => (0, false)
  | h :: r =>
    if h.nodes < 1 ∨ h.nodes > 8 then (h.nodesAt, true)
    else if h.time < 1 ∨ h.time > 12 then (h.timeAt, true)
    else if h.arr = true ∧ (h.lo > h.hi ∨ h.hi - h.lo ≥ 6) then (h.arrayAt, true)
    else beyH r
/-- The first name that an earlier head has. -/
def twiH (before : List HV) : List HV → Nat × Bool
  | [] => (0, false)
  | h :: r => if before.any (fun g => g.name == h.name) then (h.nameAt, true) else twiH (before ++ [h]) r

/-- What Read of the package head answers: heads, error, place. -/
def readH (L : List UInt8) : List HV × (Nat × Nat) :=
  if L.length > 600 then ([], (1, 0))
  else if (hdsR L).2.2 then ([], (2, (hdsR L).2.1))
  else if (beyH (hdsR L).1).2 then ([], (3, (beyH (hdsR L).1).1))
  else if (twiH [] (hdsR L).1).2 then ([], (4, (twiH [] (hdsR L).1).1))
  else ((hdsR L).1, (0, 0))

theorem hdsL_len (L : List UInt8) (n : Nat) : ∀ (s : Nat × Bool) (hs : List HV), (hdsL L n s hs).1.length ≤ hs.length + n := by
  induction n with
  | zero => intro s hs; simp [hdsL]
  | succ n ih =>
    intro s hs
    have h1 := lineH_len L s hs
    unfold hdsL
    split
    · have := ih ((lineH L s hs).2.1 + 1, (lineH L s hs).2.2) (lineH L s hs).1
      omega
    · omega

/-- A head's numbers have at most two digits. -/
def Small (h : HV) : Prop := h.nodes ≤ 99 ∧ h.time ≤ 99 ∧ h.lo ≤ 99 ∧ h.hi ≤ 99
theorem aftH_small {L : List UInt8} {h : HV} {s : Nat × Bool} (hh : Small h) : Small (aftH L h s).1 := hh
theorem arrH_small {L : List UInt8} {h : HV} {s : Nat × Bool} (hh : Small h) : Small (arrH L h s).1 := ⟨hh.1, hh.2.1, numV_le L _, numV_le L _⟩
theorem optH_small {L : List UInt8} {h : HV} {s : Nat × Bool} (hh : Small h) : Small (optH L h s).1 := by
  unfold optH
  split
  · split
    · split
      · exact aftH_small (arrH_small hh)
      · exact arrH_small hh
    · exact aftH_small hh
  · exact hh
theorem headH_small (L : List UInt8) (s : Nat × Bool) : Small (headH L s).1 := optH_small ⟨numV_le L _, numV_le L _, Nat.zero_le _, Nat.zero_le _⟩
theorem lineH_small {L : List UInt8} {s : Nat × Bool} {hs : List HV} (h : ∀ x ∈ hs, Small x) : ∀ x ∈ (lineH L s hs).1, Small x := by
  unfold lineH
  split
  · intro x hx
    simp at hx
    rcases hx with hx | rfl
    · exact h x hx
    · exact headH_small L s
  · exact h
theorem hdsL_small (L : List UInt8) (n : Nat) : ∀ (s : Nat × Bool) (hs : List HV), (∀ x ∈ hs, Small x) → ∀ x ∈ (hdsL L n s hs).1, Small x := by
  induction n with
  | zero => intro s hs h; exact h
  | succ n ih =>
    intro s hs h
    unfold hdsL
    split
    · exact ih _ _ (lineH_small h)
    · exact lineH_small h
theorem hdsR_small (L : List UInt8) : ∀ x ∈ (hdsR L).1, Small x := hdsL_small L _ _ _ (by simp)
theorem hdsR_len (L : List UInt8) : (hdsR L).1.length ≤ L.length + 1 := by
  have := hdsL_len L (L.length + 1) (0, false) []
  simpa [hdsR] using this

end Go.Proofs.YtanknpmojblmcaaGreatDoor
