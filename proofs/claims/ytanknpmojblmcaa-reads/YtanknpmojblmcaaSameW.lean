/-
  sameJob and sameJobs of what is the same.
-/
import Derived.Test.YtanknpmojblmcaaReadX
import Derived.Test.YtanknpmojblmcaaRefJ
set_option linter.unusedSimpArgs false
set_option linter.unusedVariables false
namespace Go.Proofs.Ytanknpmojblmcaa
open Go.RowKit

set_option maxHeartbeats 1000000 in
theorem sameJob_eq (j : JV) (w : World) :
    Calls Try.prog 18 #[.agg (jvC j), .agg (jvC j)] w fun e w' => e = .returned (.bool true) ∧ Below w.heap.size w w' := by
  unfold jvC
  go_enter Try.func18, Try.ntmps18
  go_wp2_with fail
  go_ret
  exact ⟨rfl, ((Below.refl _ _).alloc (Nat.le_refl _) _).alloc (by simp) _⟩

/-- A slice of jobs that can be read. -/
def Js (v : Value) (hs : List JV) (w : World) : Prop :=
  (v = .slice none 0 0 ∧ hs = []) ∨ ∃ g cap, v = .slice (some ⟨g, 0, none⟩) hs.length cap ∧ hs.length ≤ cap ∧ g < w.heap.size ∧ ∀ k, (hk : k < hs.length) → ∀ j, j < 7 → w.cell? ⟨g, k * 7 + j, none⟩ = (jvC hs[k])[j]?
theorem flatJ_len (hs : List JV) : (flatJ hs).length = hs.length * 7 := by
  induction hs with
  | nil => rfl
  | cons h r ih =>
    have : flatJ (h :: r) = (jvC h).toList ++ flatJ r := rfl
    rw [this, List.length_append, ih]
    simp [jvC]; omega
theorem flatJ_get (hs : List JV) : ∀ (k : Nat) (hk : k < hs.length) (j : Nat), j < 7 → (flatJ hs)[k * 7 + j]? = (jvC hs[k])[j]? := by
  induction hs with
  | nil => intro k hk; simp at hk
  | cons h r ih =>
    intro k hk j hj
    have e : flatJ (h :: r) = (jvC h).toList ++ flatJ r := rfl
    have hl : (jvC h).toList.length = 7 := by simp [jvC]
    rw [e]
    cases k with
    | zero => rw [List.getElem?_append_left (by omega)]; simp
    | succ k =>
      rw [List.getElem?_append_right (by omega), hl, show (k + 1) * 7 + j - 7 = k * 7 + j from by omega, ih k (by simpa using hk) j hj]
      simp
theorem Js.of {w : World} {base : Nat} {v : Value} {hs : List JV} (h : w.ownsRow base 37 7 v hs.length (flatJ hs)) : Js v hs w := by
  rcases h.2 with ⟨hv, hn⟩ | ⟨g, cap, cur, hv, h1, h2, h3, h4, h5, h6⟩
  · exact Or.inl ⟨hv, List.eq_nil_of_length_eq_zero hn⟩
  · right
    subst hv
    refine ⟨g, cap, rfl, h3, whole_lt h2, ?_⟩
    intro k hk j hj
    rw [h.cellAt (k * 7 + j) (by omega)]
    exact flatJ_get hs k hk j hj

set_option maxHeartbeats 4000000 in
theorem sameJobs_eq (u v : Value) (js : List JV) (w : World) (hu : Js u js w) (hv : Js v js w) (hl : js.length ≤ 1000) :
    Calls Try.prog 9 #[u, v] w fun e w' => e = .returned (.bool true) ∧ Below w.heap.size w w' := by
  rcases hu with ⟨rfl, rfl⟩ | ⟨g, cap, rfl, hc, hg, hcell⟩
  · rcases hv with ⟨rfl, -⟩ | ⟨g, cap, rfl, hc, hg, hcell⟩
    all_goals
      try simp only [List.length_nil]
      go_enter Try.func9, Try.ntmps9
      go_wp2_with fail
      go_loopg [5] 1 (fun k x wr => k = 1 ∧ x = .int .i64 0 ∧ wr = w)
      case atStart => exact ⟨rfl, rfl, rfl⟩
      case round =>
        obtain ⟨rfl, rfl, rfl⟩ := hrel
        go_wp2_with fail
        go_ret
        exact ⟨rfl, Below.refl _ _⟩
  · rcases hv with ⟨rfl, rfl⟩ | ⟨g2, cap2, rfl, hc2, hg2, hcell2⟩
    · simp only [List.length_nil]
      clear hcell
      go_enter Try.func9, Try.ntmps9
      go_wp2_with fail
      go_loopg [5] 1 (fun k x wr => k = 1 ∧ x = .int .i64 0 ∧ wr = w)
      case atStart => exact ⟨rfl, rfl, rfl⟩
      case round =>
        obtain ⟨rfl, rfl, rfl⟩ := hrel
        go_wp2_with fail
        go_ret
        exact ⟨rfl, Below.refl _ _⟩
    · have HC1 : Hid _ := hcell
      have HC2 : Hid _ := hcell2
      clear hcell hcell2
      go_enter Try.func9, Try.ntmps9
      go_wp2_with fail
      go_loopg [5] js.length (fun m x wr => ∃ k : Nat, m = js.length - k ∧ k ≤ js.length ∧ x = .int .i64 (k : Int) ∧ Below w.heap.size w wr)
      case atStart => exact ⟨0, rfl, Nat.zero_le _, rfl, Below.refl _ _⟩
      case round =>
        obtain ⟨k, rfl, hk, rfl, hB⟩ := hrel
        by_cases hlt : k < js.length
        · have hlt' : (k : Int) < (js.length : Int) := by omega
          have hcl : ∀ j, j < 7 → wr.cell? ⟨g, k * 7 + j, none⟩ = (jvC js[k])[j]? := fun j hj => (hB.cell hg).trans (HC1.out k hlt j hj)
          have hcl2 : ∀ j, j < 7 → wr.cell? ⟨g2, k * 7 + j, none⟩ = (jvC js[k])[j]? := fun j hj => (hB.cell hg2).trans (HC2.out k hlt j hj)
          have l0 := hcl 0 (by omega); have l1 := hcl 1 (by omega); have l2 := hcl 2 (by omega); have l3 := hcl 3 (by omega); have l4 := hcl 4 (by omega); have l5 := hcl 5 (by omega); have l6 := hcl 6 (by omega)
          have m0 := hcl2 0 (by omega); have m1 := hcl2 1 (by omega); have m2 := hcl2 2 (by omega); have m3 := hcl2 3 (by omega); have m4 := hcl2 4 (by omega); have m5 := hcl2 5 (by omega); have m6 := hcl2 6 (by omega)
          generalize js[k] = x at *
          simp [jvC] at l0 l1 l2 l3 l4 l5 l6 m0 m1 m2 m3 m4 m5 m6
          clear hcl hcl2
          have q1 := hB.size
          go_wp2_with fail
          go_region_with (go_at_call 18; refine (sameJob_eq x _).mono ?_; rintro e w' ⟨rfl, hB'⟩)
          all_goals
            have hB3 : Below w.heap.size w w' := (hB.drew).trans (hB'.mono q1)
            clear hB'
            go_wp2_with fail
            go_roundg (js.length - (k + 1))
            case measure => omega
            case rel => exact ⟨k + 1, rfl, hlt, by go_num, hB3⟩
        · have hlt' : decide ((k : Int) < (js.length : Int)) = false := by simp; omega
          go_wp2_with fail
          go_ret
          exact ⟨rfl, hB⟩

end Go.Proofs.Ytanknpmojblmcaa
