/-
  Package pool: what its jobs read as; over and hasStart of a job.
-/
import Derived.Test.YtanknpmojblmcaaGreatDoorLkE
set_option linter.unusedSimpArgs false
set_option linter.unusedVariables false
namespace Go.Proofs.YtanknpmojblmcaaGreatDoor
open Go.RowKit

/-- A job of a pool. -/
structure PJ where
  code : List UInt8
  st : Nat
  nd : Nat
  tm : Nat
  sa : Int
  en : Int

def pjC (j : PJ) : Array Value := #[.string (bs j.code), .int .i64 (j.st : Int), .int .i64 (j.nd : Int), .int .i64 (j.tm : Int), .int .i64 j.sa, .int .i64 j.en]
def pj0 : PJ := ⟨[], 0, 0, 0, 0, 0⟩
def flatP (js : List PJ) : List Value := (js.map fun h => (pjC h).toList).flatten
theorem flatP_snoc (gs : List PJ) (h : PJ) : flatP (gs ++ [h]) = flatP gs ++ (pjC h).toList := by simp [flatP]
theorem flatP_len (gs : List PJ) : (flatP gs).length = gs.length * 6 := by
  induction gs with
  | nil => rfl
  | cons x r ih =>
    have e : flatP (x :: r) = (pjC x).toList ++ flatP r := by simp [flatP]
    rw [e, List.length_append, ih]
    simp [pjC]
    omega
theorem flatP_get (hs : List PJ) : ∀ (k : Nat) (hk : k < hs.length) (j : Nat), j < 6 → (flatP hs)[k * 6 + j]? = (pjC hs[k])[j]? := by
  induction hs with
  | nil => intro k hk; simp at hk
  | cons x r ih =>
    intro k hk j hj
    have e : flatP (x :: r) = (pjC x).toList ++ flatP r := by simp [flatP]
    have hl : (pjC x).toList.length = 6 := by simp [pjC]
    rw [e]
    cases k with
    | zero => rw [List.getElem?_append_left (by omega)]; simp
    | succ k =>
      rw [List.getElem?_append_right (by omega), hl, show (k + 1) * 6 + j - 6 = k * 6 + j from by omega]
      exact ih k (by simpa using hk) j hj

/-- A list of jobs, to be read alone. -/
def Ps (v : Value) (js : List PJ) (w : World) : Prop :=
  (v = .slice none 0 0 ∧ js = []) ∨ ∃ g cap, v = .slice (some ⟨g, 0, none⟩) js.length cap ∧ js.length ≤ cap ∧ g < w.heap.size ∧ ∀ k, (hk : k < js.length) → ∀ j, j < 6 → w.cell? ⟨g, k * 6 + j, none⟩ = (pjC js[k])[j]?
theorem Ps.of {w : World} {base : Nat} {v : Value} {hs : List PJ} (h : w.ownsRow base 154 6 v hs.length (flatP hs)) : Ps v hs w := by
  rcases h.2 with ⟨hv, hn⟩ | ⟨g, cap, cur, hv, h1, h2, h3, h4, h5, h6⟩
  · exact Or.inl ⟨hv, List.eq_nil_of_length_eq_zero hn⟩
  · right
    subst hv
    refine ⟨g, cap, rfl, h3, whole_lt h2, ?_⟩
    intro k hk j hj
    rw [h.cellAt (k * 6 + j) (by omega)]
    exact flatP_get hs k hk j hj
theorem Ps.below {v : Value} {gs : List PJ} {w w' : World} (h : Ps v gs w) (k : Below w.heap.size w w') : Ps v gs w' := by
  rcases h with h | ⟨g, cap, hv, hc, hg, hcell⟩
  · exact Or.inl h
  · exact Or.inr ⟨g, cap, hv, hc, Nat.lt_of_lt_of_le hg k.size, fun i hi j hj => (k.cell (p := ⟨g, i * 6 + j, none⟩) hg).trans (hcell i hi j hj)⟩
theorem Ps.form {v : Value} {gs : List PJ} {w : World} (h : Ps v gs w) : ∃ a c, v = .slice a gs.length c := by
  rcases h with ⟨rfl, rfl⟩ | ⟨g, cap, rfl, _⟩
  · exact ⟨_, _, rfl⟩
  · exact ⟨_, _, rfl⟩

/-- A system's block. -/
def Pl (s : Nat) (gv : Value) (nodes : Nat) (now : Int) (jv qv : Value) (w : World) : Prop :=
  w.heap[s]? = some (.cells #[gv, .int .i64 (nodes : Int), .int .i64 now, jv, qv] 74 (0, 0))
theorem Pl.lt {s : Nat} {gv : Value} {nodes : Nat} {now : Int} {jv qv : Value} {w : World} (h : Pl s gv nodes now jv qv w) : s < w.heap.size := whole_lt h
theorem Pl.below {s : Nat} {gv : Value} {nodes : Nat} {now : Int} {jv qv : Value} {w w' : World} (h : Pl s gv nodes now jv qv w) (k : Below w.heap.size w w') : Pl s gv nodes now jv qv w' := (k.block s h.lt).trans h
theorem Pl.c {s : Nat} {gv : Value} {nodes : Nat} {now : Int} {jv qv : Value} {w : World} (h : Pl s gv nodes now jv qv w) (i : Nat) : w.cell? ⟨s, i, none⟩ = (#[gv, .int .i64 (nodes : Int), .int .i64 now, jv, qv] : Array Value)[i]? := whole_cell h i

/-- What keeps a job's numbers small. -/
structure PjOK (j : PJ) : Prop where
  st : j.st ≤ 6
  nd : j.nd ≤ 8
  tm : j.tm ≤ 12
  lo : -1 ≤ j.sa
  hi : j.sa ≤ 10000

def hasS (j : PJ) : Bool := (j.st : Int) == 2 || (j.st : Int) == 1
def overJ (j : PJ) : Int := j.sa + (j.tm : Int)

set_option maxHeartbeats 1000000 in
theorem plOver (j : PJ) (h : PjOK j) (w : World) :
    Calls Tryz.prog 134 #[.agg (pjC j)] w fun e w' => e = .returned (.int .i64 (overJ j)) ∧ Below w.heap.size w w' := by
  unfold pjC overJ
  have h1 := h.tm; have h2 := h.lo; have h3 := h.hi
  go_enter Tryz.func134, Tryz.ntmps134
  go_wp2_with fail
  go_ret
  exact ⟨rfl, (Below.refl _ w).alloc (Nat.le_refl _) _⟩

set_option maxHeartbeats 1000000 in
theorem plHas (j : PJ) (h : PjOK j) (w : World) :
    Calls Tryz.prog 133 #[.agg (pjC j)] w fun e w' => e = .returned (.bool (hasS j)) ∧ Below w.heap.size w w' := by
  have h1 := h.st
  have e1 : ((j.st : Int) == 2 || (j.st : Int) == 1) = hasS j := rfl
  by_cases h2 : (j.st : Int) = 2
  · have e2 : hasS j = true := by unfold hasS; simp [h2]
    rw [e2]
    unfold pjC
    rw [h2]
    go_enter Tryz.func133, Tryz.ntmps133
    go_wp2_with fail
    go_ret
    exact ⟨rfl, (Below.refl _ w).alloc (Nat.le_refl _) _⟩
  · have h3 : ((j.st : Int) == 2) = false := by simpa using h2
    have e2 : hasS j = ((j.st : Int) == 1) := by unfold hasS; rw [h3]; rfl
    rw [e2]
    unfold pjC
    go_enter Tryz.func133, Tryz.ntmps133
    go_wp2_with fail
    go_ret
    exact ⟨rfl, (Below.refl _ w).alloc (Nat.le_refl _) _⟩
end Go.Proofs.YtanknpmojblmcaaGreatDoor
