/-
  Plain functions on texts: how the program's reader reads a head, and all heads.
-/
import Derived.Test.YtkmdmlpkbidpoaaSpec2
set_option linter.unusedSimpArgs false
set_option linter.unusedVariables false
namespace Go.Proofs.Ytkmdmlpkbidpoaa

/-- A head, as the program has it. -/
structure HV where
  name : List UInt8
  nodes : Nat
  time : Nat
  arr : Bool
  lo : Nat
  hi : Nat
  after : List UInt8
  nameAt : Nat
  nodesAt : Nat
  timeAt : Nat
  arrayAt : Nat

def hv0 : HV := ⟨[], 0, 0, false, 0, 0, [], 0, 0, 0, 0⟩

def aftH (L : List UInt8) (h : HV) (s : Nat × Bool) : HV × (Nat × Bool) :=
  ({ h with after := (wantF L (fac L 4) (wd L [102, 116, 101, 114, 61] s)).1.1 }, (wantF L (fac L 4) (wd L [102, 116, 101, 114, 61] s)).2)
def arrH (L : List UInt8) (h : HV) (s : Nat × Bool) : HV × (Nat × Bool) :=
  ({ h with arr := true, arrayAt := s.1, lo := numV L s, hi := numV L (wd L [45] (numS L s)) }, numS L (wd L [45] (numS L s)))
def optH (L : List UInt8) (h : HV) (s : Nat × Bool) : HV × (Nat × Bool) :=
  if sk L 32 s then
    if pk L (wd L [97] (s.1 + 1, s.2)) = 114 then
      if sk L 32 (arrH L h (wd L [114, 114, 97, 121, 61] (wd L [97] (s.1 + 1, s.2)))).2 then
        aftH L (arrH L h (wd L [114, 114, 97, 121, 61] (wd L [97] (s.1 + 1, s.2)))).1 (wd L [97] ((arrH L h (wd L [114, 114, 97, 121, 61] (wd L [97] (s.1 + 1, s.2)))).2.1 + 1, (arrH L h (wd L [114, 114, 97, 121, 61] (wd L [97] (s.1 + 1, s.2)))).2.2))
      else arrH L h (wd L [114, 114, 97, 121, 61] (wd L [97] (s.1 + 1, s.2)))
    else aftH L h (wd L [97] (s.1 + 1, s.2))
  else (h, s)
/-- What stands ahead of the options. -/
def hed1 (L : List UInt8) (s : Nat × Bool) : Nat × Bool := wd L [35, 74, 32] s
def hed2 (L : List UInt8) (s : Nat × Bool) : Nat × Bool := wd L [32, 110, 111, 100, 101, 115, 61] (nmS L (hed1 L s))
def hed3 (L : List UInt8) (s : Nat × Bool) : Nat × Bool := wd L [32, 116, 105, 109, 101, 61] (numS L (hed2 L s))
def hed4 (L : List UInt8) (s : Nat × Bool) : Nat × Bool := numS L (hed3 L s)
def hedV (L : List UInt8) (s : Nat × Bool) : HV :=
  { name := cut L (hed1 L s).1 (nmS L (hed1 L s)).1, nodes := numV L (hed2 L s), time := numV L (hed3 L s), arr := false, lo := 0, hi := 0, after := [], nameAt := (hed1 L s).1, nodesAt := (hed2 L s).1, timeAt := (hed3 L s).1, arrayAt := 0 }
def headH (L : List UInt8) (s : Nat × Bool) : HV × (Nat × Bool) := optH L (hedV L s) (hed4 L s)

theorem numV_le (L : List UInt8) (s : Nat × Bool) : numV L s ≤ 99 := by
  unfold numV
  split
  · rename_i h
    split
    · simp [digB] at h; omega
    · rename_i h2; simp [digB] at h h2; omega
  · omega

theorem aftH_goes (L : List UInt8) (h : HV) (s : Nat × Bool) (hs : s.1 ≤ L.length) : Goes L s (aftH L h s).2 := by
  have h1 := wd_goes L [102, 116, 101, 114, 61] s hs
  exact h1.trans (wantF_good (fac_good L 4) _ h1.2).1
theorem arrH_goes (L : List UInt8) (h : HV) (s : Nat × Bool) (hs : s.1 ≤ L.length) : Goes L s (arrH L h s).2 := by
  have h1 := numS_goes L s hs
  have h2 := wd_goes L [45] _ h1.2
  exact (h1.trans h2).trans (numS_goes L _ h2.2)
theorem sk_goes {L : List UInt8} {c : Nat} {s : Nat × Bool} (h : sk L c s = true) : Goes L s (s.1 + 1, s.2) := ⟨by simp, (sk_lt h).1⟩
theorem optH_goes (L : List UInt8) (h : HV) (s : Nat × Bool) (hs : s.1 ≤ L.length) : Goes L s (optH L h s).2 := by
  unfold optH
  split
  · rename_i h1
    have g1 := sk_goes h1
    have g2 := g1.trans (wd_goes L [97] _ g1.2)
    split
    · have g3 := g2.trans (wd_goes L [114, 114, 97, 121, 61] _ g2.2)
      have g4 := g3.trans (arrH_goes L h _ g3.2)
      split
      · rename_i h3
        have g5 := g4.trans (sk_goes h3)
        have g6 := g5.trans (wd_goes L [97] _ g5.2)
        exact g6.trans (aftH_goes L _ _ g6.2)
      · exact g4
    · exact g2.trans (aftH_goes L h _ g2.2)
  · exact ⟨Nat.le_refl _, hs⟩
theorem hed1_goes (L : List UInt8) (s : Nat × Bool) (hs : s.1 ≤ L.length) : Goes L s (hed1 L s) := wd_goes L _ s hs
theorem hed2_goes (L : List UInt8) (s : Nat × Bool) (hs : s.1 ≤ L.length) : Goes L s (hed2 L s) := by
  have h1 := hed1_goes L s hs
  have h2 := h1.trans (nmS_goes L _ h1.2)
  exact h2.trans (wd_goes L _ _ h2.2)
theorem hed3_goes (L : List UInt8) (s : Nat × Bool) (hs : s.1 ≤ L.length) : Goes L s (hed3 L s) := by
  have h1 := hed2_goes L s hs
  have h2 := h1.trans (numS_goes L _ h1.2)
  exact h2.trans (wd_goes L _ _ h2.2)
theorem hed4_goes (L : List UInt8) (s : Nat × Bool) (hs : s.1 ≤ L.length) : Goes L s (hed4 L s) := by
  have h1 := hed3_goes L s hs
  exact h1.trans (numS_goes L _ h1.2)
theorem headH_goes (L : List UInt8) (s : Nat × Bool) (hs : s.1 ≤ L.length) : Goes L s (headH L s).2 := by
  have h1 := hed4_goes L s hs
  exact h1.trans (optH_goes L _ _ h1.2)

end Go.Proofs.Ytkmdmlpkbidpoaa
