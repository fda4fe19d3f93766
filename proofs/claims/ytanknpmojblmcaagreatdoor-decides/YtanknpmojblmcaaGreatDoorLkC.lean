/-
  Package link: whether a reference names a job; the code that asks something of several jobs.
-/
import Derived.Test.YtanknpmojblmcaaGreatDoorLkB
set_option linter.unusedSimpArgs false
set_option linter.unusedVariables false
namespace Go.Proofs.YtanknpmojblmcaaGreatDoor
open Go.RowKit

def existsG (o : Option GV) (nbd : Bool) (num : Nat) : Bool :=
  match o with
  | none => false
  | some g => !nbd || (g.arr && decide (g.lo ≤ num) && decide (num < g.lo + g.count))

set_option maxRecDepth 100000 in
set_option maxHeartbeats 1000000 in
theorem lkExists (v u : Value) (before own : List GV) (pos : Nat) (nm : List UInt8) (nbd : Bool) (num : Nat) (w : World) (hB : Gs v before w) (hO : Gs u own w) (hl : before.length ≤ 1000) (hm : own.length ≤ 1000)
    (hg : ∀ g, meantG before own nm = some g → g.lo + g.count ≤ 1000) (hnum : num ≤ 100000) :
    Calls Tryz.prog 46 #[v, u, .agg #[.int .i64 (pos : Int), .string (bs nm), .bool nbd, .int .i64 (num : Int)]] w fun e w' => e = .returned (.bool (existsG (meantG before own nm) nbd num)) ∧ Below w.heap.size w w' := by
  obtain ⟨a, c, rfl⟩ := hB.form
  obtain ⟨a', c', rfl⟩ := hO.form
  go_enter Tryz.func46, Tryz.ntmps46
  go_wp2_with fail
  have Y : (w.alloc (.cells #[.int .i64 (pos : Int), .string (bs nm), .bool nbd, .int .i64 (num : Int)] 110)).heap[w.heap.size]? = _ := whole_new w (.cells #[.int .i64 (pos : Int), .string (bs nm), .bool nbd, .int .i64 (num : Int)] 110 (0, 0))
  have hw0 := (Below.refl _ w).alloc (Nat.le_refl _) (.cells #[.int .i64 (pos : Int), .string (bs nm), .bool nbd, .int .i64 (num : Int)] 110)
  have hB0 := hB.below hw0
  have hO0 := hO.below hw0
  generalize w.alloc (.cells #[.int .i64 (pos : Int), .string (bs nm), .bool nbd, .int .i64 (num : Int)] 110) = x0 at *
  obtain ⟨h, hh⟩ : ∃ h, h = w.heap.size := ⟨_, rfl⟩
  rw [← hh] at Y hw0 ⊢
  have HH : Hid (h = w.heap.size) := hh
  clear hh hB hO
  refine (lkMeant _ _ before own nm x0 hB0 hO0 hl hm).mono ?_
  rintro e w1 ⟨rfl, hw1⟩
  have Y1 : w1.heap[h]? = _ := (hw1.block h (whole_lt Y)).trans Y
  replace hw1 : Below h w w1 := hw0.trans (hw1.mono (Nat.le_of_lt (whole_lt Y)))
  have c2 := whole_cell Y1 2; have c3 := whole_cell Y1 3
  simp at c2 c3
  clear Y hB0 hO0 hw0
  have hs1 : h < w1.heap.size := whole_lt Y1
  cases eo : meantG before own nm with
  | none =>
    have HO : Hid (meantG before own nm = none) := eo
    clear eo
    simp only [meantV, Option.getD, Option.isSome, gvC, noG]
    go_wp2_with fail
    go_ret
    rw [HO.out, ← HH.out]
    exact ⟨rfl, hw1.alloc (by omega) _⟩
  | some g =>
    have hgl := hg g eo
    have HO : Hid (meantG before own nm = some g) := eo
    clear eo hg
    simp only [meantV, Option.getD, Option.isSome, gvC]
    cases nbd with
    | false =>
      go_wp2_with fail
      go_ret
      rw [HO.out, ← HH.out]
      exact ⟨rfl, hw1.alloc (by omega) _⟩
    | true =>
      cases ha : g.arr with
      | false =>
        have HA : Hid (g.arr = false) := ha
        clear ha
        go_wp2_with fail
        go_ret
        rw [HO.out, ← HH.out]
        exact ⟨by simp [existsG, HA.out], hw1.alloc (by omega) _⟩
      | true =>
        have HA : Hid (g.arr = true) := ha
        clear ha
        by_cases h1 : g.lo ≤ num
        · have h1' : (g.lo : Int) ≤ (num : Int) := by omega
          by_cases h2 : num < g.lo + g.count
          · have h2' : (num : Int) < (g.lo : Int) + (g.count : Int) := by omega
            go_wp2_with fail
            go_ret
            rw [HO.out, ← HH.out]
            exact ⟨by simp [existsG, HA.out, h1, h2], hw1.alloc (by omega) _⟩
          · have h2' : ¬ (num : Int) < (g.lo : Int) + (g.count : Int) := by omega
            go_wp2_with fail
            go_ret
            rw [HO.out, ← HH.out]
            exact ⟨by simp [existsG, HA.out, h1, h2], hw1.alloc (by omega) _⟩
        · have h1' : ¬ (g.lo : Int) ≤ (num : Int) := by omega
          go_wp2_with fail
          go_ret
          rw [HO.out, ← HH.out]
          exact ⟨by simp [existsG, HA.out, h1], hw1.alloc (by omega) _⟩

end Go.Proofs.YtanknpmojblmcaaGreatDoor
