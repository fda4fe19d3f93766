/-
  The document's answer: limit.
-/
import Derived.Test.YtanknpmojblmcaaRefF
set_option linter.unusedSimpArgs false
set_option linter.unusedVariables false
namespace Go.Proofs.Ytanknpmojblmcaa
open Go.RowKit

/-- The place of a head's first number that may not be. -/
def limI (h : RV) : Int :=
  if h.nodes < 1 ∨ 8 < h.nodes then h.nodesAt
  else if h.time < 1 ∨ 12 < h.time then h.timeAt
  else if h.arr = true ∧ (h.hi - h.lo + 1 < 1 ∨ 6 < h.hi - h.lo + 1) then h.arrayAt
  else -1
def RSmall (h : RV) : Prop := 0 ≤ h.lo ∧ h.lo ≤ 99 ∧ 0 ≤ h.hi ∧ h.hi ≤ 99

theorem lim_n {h : RV} (g : h.nodes < 1 ∨ 8 < h.nodes) : limI h = h.nodesAt := by unfold limI; rw [if_pos g]
theorem lim_t {h : RV} (g1 : 1 ≤ h.nodes ∧ h.nodes ≤ 8) (g : h.time < 1 ∨ 12 < h.time) : limI h = h.timeAt := by unfold limI; rw [if_neg (by omega), if_pos g]
theorem lim_a {h : RV} (g1 : 1 ≤ h.nodes ∧ h.nodes ≤ 8) (g2 : 1 ≤ h.time ∧ h.time ≤ 12) (g3 : h.arr = true) (g : h.hi - h.lo + 1 < 1 ∨ 6 < h.hi - h.lo + 1) : limI h = h.arrayAt := by unfold limI; rw [if_neg (by omega), if_neg (by omega), if_pos ⟨g3, g⟩]
theorem lim_o {h : RV} (g1 : 1 ≤ h.nodes ∧ h.nodes ≤ 8) (g2 : 1 ≤ h.time ∧ h.time ≤ 12) (g : h.arr = true → 1 ≤ h.hi - h.lo + 1 ∧ h.hi - h.lo + 1 ≤ 6) : limI h = -1 := by unfold limI; rw [if_neg (by omega), if_neg (by omega), if_neg (by intro q; have := g q.1; omega)]

set_option maxHeartbeats 2000000 in
theorem limit_any (h : RV) (w : World) (hs : RSmall h) :
    Calls Try.prog 17 #[rvV h] w fun e w' => e = .returned (.int .i64 (limI h)) ∧ Below w.heap.size w w' := by
  obtain ⟨s1, s2, s3, s4⟩ := hs
  unfold rvV rvC
  cases ha : h.arr with
  | true =>
    have HA : Hid (h.arr = true) := ha
    clear ha
    go_enter Try.func17, Try.ntmps17
    go_wp2_with fail
    all_goals first
      | (go_ret; refine ⟨?_, (Below.refl _ _).alloc (Nat.le_refl _) _⟩; rw [lim_n (by omega)]; rfl)
      | (go_ret; refine ⟨?_, (Below.refl _ _).alloc (Nat.le_refl _) _⟩; rw [lim_t (by omega) (by omega)]; rfl)
      | (go_ret; refine ⟨?_, (Below.refl _ _).alloc (Nat.le_refl _) _⟩; rw [lim_a (by omega) (by omega) HA.out (by omega)]; rfl)
      | (go_ret; refine ⟨?_, (Below.refl _ _).alloc (Nat.le_refl _) _⟩; rw [lim_o (by omega) (by omega) (fun _ => by omega)]; rfl)
  | false =>
    have HA : Hid (h.arr = false) := ha
    clear ha
    go_enter Try.func17, Try.ntmps17
    go_wp2_with fail
    all_goals first
      | (go_ret; refine ⟨?_, (Below.refl _ _).alloc (Nat.le_refl _) _⟩; rw [lim_n (by omega)]; rfl)
      | (go_ret; refine ⟨?_, (Below.refl _ _).alloc (Nat.le_refl _) _⟩; rw [lim_t (by omega) (by omega)]; rfl)
      | (go_ret; refine ⟨?_, (Below.refl _ _).alloc (Nat.le_refl _) _⟩; rw [lim_o (by omega) (by omega) (fun e => by rw [HA.out] at e; cases e)]; rfl)

end Go.Proofs.Ytanknpmojblmcaa
