/-
  And, Or, and what is told of one job: of the program and of the document.
-/
import Derived.Test.YtanknpmojblmcaaWld
import Derived.Test.YtanknpmojblmcaaXSpec
import Derived.Deep.RegionHeld3
import Derived.Deep.AppendLies
import Derived.Deep.RegionLaw
import Derived.Deep.DrawnRows
set_option linter.unusedSimpArgs false
set_option linter.unusedVariables false
namespace Go.Proofs.Ytanknpmojblmcaa
open Go.RowKit

theorem retn {a : Nat} {b : Int} (h : b = (a : Int)) : Ending.returned (.int .i64 b) = .returned (.int .i64 (a : Int)) := by rw [h]

set_option maxHeartbeats 1000000 in
theorem vand_any (a b : Nat) (ha : a ≤ 2) (hb : b ≤ 2) (w : World) :
    Calls Try.prog 70 #[.int .i64 (a : Int), .int .i64 (b : Int)] w fun e w' => e = .returned (.int .i64 (vAnd a b : Int)) ∧ w' = w := by
  have h1 : a = 0 ∨ a = 1 ∨ a = 2 := by omega
  have h2 : b = 0 ∨ b = 1 ∨ b = 2 := by omega
  clear ha hb
  rcases h1 with rfl | rfl | rfl <;> rcases h2 with rfl | rfl | rfl
  all_goals
    go_enter Try.func70, Try.ntmps70
    go_wp2_with fail
    go_ret
    exact ⟨rfl, rfl⟩

set_option maxHeartbeats 1000000 in
theorem vor_any (a b : Nat) (ha : a ≤ 2) (hb : b ≤ 2) (w : World) :
    Calls Try.prog 71 #[.int .i64 (a : Int), .int .i64 (b : Int)] w fun e w' => e = .returned (.int .i64 (vOr a b : Int)) ∧ w' = w := by
  have h1 : a = 0 ∨ a = 1 ∨ a = 2 := by omega
  have h2 : b = 0 ∨ b = 1 ∨ b = 2 := by omega
  clear ha hb
  rcases h1 with rfl | rfl | rfl <;> rcases h2 with rfl | rfl | rfl
  all_goals
    go_enter Try.func71, Try.ntmps71
    go_wp2_with fail
    go_ret
    exact ⟨rfl, rfl⟩

set_option maxHeartbeats 400000 in
theorem known_any (b : Bool) (w : World) :
    Calls Try.prog 72 #[.bool b] w fun e w' => e = .returned (.int .i64 (knw b : Int)) ∧ w' = w := by
  cases b
  all_goals
    go_enter Try.func72, Try.ntmps72
    go_wp2_with fail
    go_ret
    exact ⟨rfl, rfl⟩

set_option maxHeartbeats 400000 in
theorem asksJob_any (op : Nat) (h : op < 256) (w : World) :
    Calls Try.prog 49 #[.int .i64 (op : Int)] w fun e w' => e = .returned (.bool (asksB op)) ∧ w' = w := by
  by_cases h1 : 1 ≤ op
  · have h1' : (1 : Int) ≤ (op : Int) := by omega
    go_enter Try.func49, Try.ntmps49
    go_wp2_with fail
    go_ret
    refine ⟨?_, rfl⟩
    by_cases h2 : op ≤ 4 <;> simp [asksB, h1] <;> omega
  · have h1' : decide ((1 : Int) ≤ (op : Int)) = false := by simp; omega
    go_enter Try.func49, Try.ntmps49
    go_wp2_with fail
    go_ret
    exact ⟨by simp [asksB, h1], rfl⟩

theorem beqF {a b : Int} (h : a ≠ b) : (a == b) = false := by rw [beq_eq_false_iff_ne]; exact h
theorem beqT {a b : Int} (h : a = b) : (a == b) = true := by rw [beq_iff_eq]; exact h

set_option maxHeartbeats 1000000 in
theorem ofJob_any (op : Nat) (s : Int) (h1 : 1 ≤ op) (h2 : op ≤ 4) (w : World) :
    Calls Try.prog 63 #[.int .i64 (op : Int), .int .i64 s] w fun e w' => e = .returned (.int .i64 (vP op s : Int)) ∧ ∃ n, w' = w.drewN n := by
  by_cases h3 : s < 3
  · go_enter Try.func63, Try.ntmps63
    go_wp2_with fail
    go_ret
    exact ⟨by simp [vP, h3], 0, rfl⟩
  · have h3' : decide (s < (3 : Int)) = false := by simp; omega
    have hop : op = 1 ∨ op = 2 ∨ op = 3 ∨ op = 4 := by omega
    clear h1 h2
    rcases hop with rfl | rfl | rfl | rfl
    · have HV : Hid (vP 1 s = knw (s == 3)) := by show vP 1 s = _; simp [vP, h3]
      clear h3
      go_enter Try.func63, Try.ntmps63
      go_wp2_with fail
      refine (known_any _ _).mono ?_
      rintro e w1 ⟨rfl, hw1⟩
      subst hw1
      go_wp2_with fail
      go_ret
      exact ⟨by rw [HV.out]; rfl, 0, rfl⟩
    · have HV : Hid (vP 2 s = knw (s != 6)) := by show vP 2 s = _; simp [vP, h3]
      clear h3
      go_enter Try.func63, Try.ntmps63
      go_wp2_with fail
      refine (known_any _ _).mono ?_
      rintro e w1 ⟨rfl, hw1⟩
      subst hw1
      go_wp2_with fail
      go_ret
      exact ⟨by rw [HV.out]; rfl, 0, rfl⟩
    · have HV : Hid (vP 3 s = knw (s == 4 || s == 5)) := by show vP 3 s = _; simp [vP, h3]
      clear h3
      by_cases h4 : s = 4
      · subst h4
        go_enter Try.func63, Try.ntmps63
        go_wp2_with fail
        refine (known_any _ _).mono ?_
        rintro e w1 ⟨rfl, hw1⟩
        subst hw1
        go_wp2_with fail
        go_ret
        exact ⟨by rw [HV.out]; rfl, 0, rfl⟩
      · have h4' := beqF h4
        rw [h4'] at HV
        go_enter Try.func63, Try.ntmps63
        go_wp2_with fail
        refine (known_any _ _).mono ?_
        rintro e w1 ⟨rfl, hw1⟩
        subst hw1
        go_wp2_with fail
        go_ret
        exact ⟨by rw [HV.out]; rfl, 0, rfl⟩
    · have HV : Hid (vP 4 s = 1) := by show vP 4 s = _; unfold vP; rw [if_neg h3]; rfl
      clear h3
      go_enter Try.func63, Try.ntmps63
      go_wp2_with fail
      go_ret
      exact ⟨by rw [HV.out]; rfl, 0, rfl⟩

end Go.Proofs.Ytanknpmojblmcaa
