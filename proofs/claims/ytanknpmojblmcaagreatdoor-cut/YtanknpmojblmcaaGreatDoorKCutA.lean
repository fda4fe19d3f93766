/-
  Cut's small functions: pick of any number, where a line begins.
-/
import Derived.Test.YtanknpmojblmcaaGreatDoorKFeed
import Derived.Test.YtanknpmojblmcaaGreatDoorName
set_option linter.unusedSimpArgs false
set_option linter.unusedVariables false
namespace Go.Proofs.YtanknpmojblmcaaGreatDoor
open Go.RowKit

/-- Where the line begins in which the byte at p stands. -/
def lineA (S : List UInt8) : Nat → Nat
  | 0 => 0
  | p + 1 => if byt S p = 10 then p + 1 else lineA S p
theorem lineA_le (S : List UInt8) : ∀ p, lineA S p ≤ p
  | 0 => Nat.le_refl _
  | p + 1 => by
    unfold lineA
    split
    · exact Nat.le_refl _
    · have := lineA_le S p; omega
theorem lineA_start (S : List UInt8) : ∀ p, lineA S p = 0 ∨ (0 < lineA S p ∧ byt S (lineA S p - 1) = 10)
  | 0 => Or.inl rfl
  | p + 1 => by
    unfold lineA
    split
    · rename_i h; exact Or.inr ⟨by omega, h⟩
    · exact lineA_start S p
theorem lineA_no (S : List UInt8) : ∀ p k, lineA S p ≤ k → k < p → byt S k ≠ 10
  | 0, k, _, h => by omega
  | p + 1, k, h1, h2 => by
    unfold lineA at h1
    split at h1
    · omega
    · rename_i hp
      by_cases hk : k = p
      · rw [hk]; exact hp
      · exact lineA_no S p k h1 (by omega)

set_option maxHeartbeats 400000 in
theorem pick_int (c : Int) (n : Nat) (h1 : -9223372036854775808 ≤ c) (h2 : c ≤ 9223372036854775807) (hn : 0 < n) (hn2 : n ≤ 1000) (w : World) :
    Calls Tryz.prog 6 #[.int .i64 c, .int .i64 (n : Int)] w fun e w' => ∃ k : Nat, k < n ∧ e = .returned (.int .i64 (k : Int)) ∧ w' = w := by
  have hz : (n : Int) ≠ 0 := by omega
  by_cases hc : c < 0
  · obtain ⟨d, hd⟩ : ∃ d : Nat, c = -(d : Int) - 1 := ⟨(-(c + 1)).toNat, by omega⟩
    subst hd
    have hc' : decide (-(d : Int) - 1 < 0) = true := by simp; omega
    go_enter Tryz.func6, Tryz.ntmps6
    go_wp2_with fail

    go_ret
    exact ⟨d % n, Nat.mod_lt _ hn, ret_int (by omega), rfl⟩
  · obtain ⟨d, hd⟩ : ∃ d : Nat, c = (d : Int) := ⟨c.toNat, by omega⟩
    subst hd
    have hc' : decide ((d : Int) < 0) = false := by simp
    go_enter Tryz.func6, Tryz.ntmps6
    go_wp2_with fail
    go_ret
    exact ⟨d % n, Nat.mod_lt _ hn, ret_int (by omega), rfl⟩

set_option maxHeartbeats 400000 in
theorem line_any (T : ByteArray) (p : Nat) (hp : p ≤ T.size) (hT : T.size ≤ 1000) (w : World) :
    Calls Tryz.prog 7 #[.string T, .int .i64 (p : Int)] w fun e w' => e = .returned (.int .i64 (lineA T.data.toList p : Int)) ∧ w' = w := by
  go_enter Tryz.func7, Tryz.ntmps7
  go_wp2_with fail

  go_loopg [5] (p + 1) (fun r x wr => ∃ k : Nat, k ≤ p ∧ r = k + 1 ∧ x = .int .i64 (k : Int) ∧ Hid (lineA T.data.toList k = lineA T.data.toList p) ∧ wr = w)
  case atStart => exact ⟨p, Nat.le_refl _, rfl, rfl, rfl, rfl⟩
  case round =>
    obtain ⟨k, hk, rfl, rfl, HL, rfl⟩ := hrel
    cases k with
    | zero =>
      go_wp2_with fail
      go_ret
      rw [← HL.out]
      exact ⟨rfl, rfl⟩
    | succ k =>
      have hk1 : (0 : Int) < ((k + 1 : Nat) : Int) := by omega
      have hkT : k < T.size := by omega
      have hb := byt_arr T k hkT
      have hkI : (k : Int) < (T.size : Int) := by omega
      by_cases hn : byt T.data.toList k = 10
      · go_wp2_with fail
        go_ret
        rw [← HL.out]
        refine ⟨ret_int ?_, rfl⟩
        simp [lineA, hn]
      · go_wp2_with fail
        go_roundg (k + 1)
        case measure => omega
        case rel => exact ⟨k, by omega, rfl, by go_num, (by show _ = _; rw [← HL.out]; simp [lineA, hn]), rfl⟩

end Go.Proofs.YtanknpmojblmcaaGreatDoor
