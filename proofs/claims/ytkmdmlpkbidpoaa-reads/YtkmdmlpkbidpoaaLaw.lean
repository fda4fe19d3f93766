/-
  Reads, for every script, where the document's answer and the program's agree at every text.
-/
import Derived.Test.YtkmdmlpkbidpoaaLawW
set_option linter.unusedSimpArgs false
set_option linter.unusedVariables false
namespace Go.Proofs.Ytkmdmlpkbidpoaa
open Go.RowKit

/-- A script that came in: what is read of its steps. -/
def IsOps (w : World) (a : Option Addr) (len cap : Nat) : Prop :=
  (a = none ∧ len = 0 ∧ cap = 0) ∨
  ∃ x : Addr, a = some x ∧ len ≤ cap ∧ cap ≤ maxLen ∧ ∀ i, i < len → ∃ (n : Int) (s : ByteArray), w.cell? (x.add (i * 6)) = some (.int .i64 n) ∧ w.cell? ((x.add (i * 6)).add 4) = some (.string s) ∧ s.size ≤ maxLen

set_option maxHeartbeats 2000000 in
theorem Reads_walk (agree : ∀ L, Agree L 700) (a : Option Addr) (len cap : Nat) (w : World) (h : IsOps w a len cap) :
    Calls Try.prog 3 #[.slice a len cap] w fun e w' => e = .returned (.bool true) ∧ Below w.heap.size w w' := by
  rcases h with ⟨rfl, rfl, rfl⟩ | ⟨x, rfl, hl, hm, hc⟩
  · go_enter Try.func3, Try.ntmps3
    go_wp2_with fail
    go_loopg [3] 1 (fun k x wr => k = 1 ∧ x = .int .i64 0 ∧ wr = w)
    case atStart => exact ⟨rfl, rfl, rfl⟩
    case round =>
      obtain ⟨rfl, rfl, rfl⟩ := hrel
      go_wp2_with fail
      go_ret
      exact ⟨rfl, Below.refl _ _⟩
  · unfold maxLen at hm
    have HC : Hid _ := hc
    have HA : Hid (∀ L, Agree L 700) := agree
    clear hc agree
    go_enter Try.func3, Try.ntmps3
    go_wp2_with fail
    go_loopg [3] len (fun m y wr => ∃ k : Nat, m = len - k ∧ k ≤ len ∧ y = .int .i64 (k : Int) ∧ Below w.heap.size w wr)
    case atStart => exact ⟨0, rfl, Nat.zero_le _, rfl, Below.refl _ _⟩
    case round =>
      obtain ⟨k, rfl, hk, rfl, hB⟩ := hrel
      by_cases hlt : k < len
      · have hlt' : (k : Int) < (len : Int) := by omega
        obtain ⟨n, s, h1, h2, h3⟩ := HC.out k hlt
        obtain ⟨b, off, spot⟩ := x
        have hspot : spot = none := by
          have := World.cell?_spot h1
          unfold Addr.add at this
          split at this
          · exact this
          · rename_i hz
            have h0 := HC.out 0 (by omega)
            obtain ⟨n0, s0, g1, -, -⟩ := h0
            simpa [Addr.add] using World.cell?_spot g1
        subst hspot
        have e1 : (⟨b, off, none⟩ : Addr).add (k * 6) = ⟨b, off + k * 6, none⟩ := by unfold Addr.add; split <;> simp_all
        have e2 : (⟨b, off + k * 6, none⟩ : Addr).add 4 = ⟨b, off + k * 6 + 4, none⟩ := by simp [Addr.add]
        rw [e1] at h1 h2
        rw [e2] at h2
        have hbl : b < w.heap.size := World.block_lt_of_cell? w _ h1
        replace h1 := (hB.cell (p := ⟨b, off + k * 6, none⟩) hbl).trans h1
        replace h2 := (hB.cell (p := ⟨b, off + k * 6 + 4, none⟩) hbl).trans h2
        clear e1 e2
        by_cases hn : n = 1
        · subst hn
          go_wp2_with fail
          refine (read_good s 700 _ h3 (HA.out _)).mono ?_
          rintro e w1 ⟨v, rfl, hB1⟩
          replace hB1 := hB.trans (hB1.mono hB.size)
          go_wp2_with fail
          go_roundg (len - (k + 1))
          case measure => omega
          case rel => exact ⟨k + 1, rfl, hlt, by go_num, hB1⟩
        · have hn' : (n == 1) = false := by rw [beq_eq_false_iff_ne]; exact hn
          clear hn
          go_wp2_with fail
          go_roundg (len - (k + 1))
          case measure => omega
          case rel => exact ⟨k + 1, rfl, hlt, by go_num, hB⟩
      · have hlt' : decide ((k : Int) < (len : Int)) = false := by simp; omega
        go_wp2_with fail
        go_ret
        exact ⟨rfl, hB⟩

end Go.Proofs.Ytkmdmlpkbidpoaa
