/-
  Execs: for every script of bulk at most 1048576 (its values and letters together) it returns true, and the script reads as before.
-/
import Derived.Test.YtanknpmojblmcaaRows
import Derived.Test.YtanknpmojblmcaaXExecB
import Derived.ProofKit
import Derived.OpenShut
import Derived.ShutString
import Derived.ChangeOld
import Derived.Below
import Derived.Deep.Slices
import Derived.JoinedCond
set_option linter.unusedSimpArgs false
set_option linter.unusedVariables false
namespace Go.Proofs.Ytanknpmojblmcaa
open Go.ChangeShapes Go.WideShapes Go.ChangeAt Go.RowKit

/-- A script that came in: what is read of its steps. -/
def IsOpsX (w : World) (a : Option Addr) (len cap : Nat) : Prop :=
  (a = none ∧ len = 0 ∧ cap = 0) ∨
  ∃ x : Addr, a = some x ∧ len ≤ cap ∧ cap ≤ maxLen ∧ ∀ i, i < len → ∃ (n : Int) (s t : ByteArray), w.cell? (x.add (i * 6)) = some (.int .i64 n) ∧ w.cell? ((x.add (i * 6)).add 4) = some (.string s) ∧ w.cell? ((x.add (i * 6)).add 5) = some (.string t) ∧ s.size ≤ maxLen ∧ t.size ≤ 1048576

set_option maxHeartbeats 4000000 in
theorem Execs_walk (a : Option Addr) (len cap : Nat) (w : World) (h : IsOpsX w a len cap) :
    Calls Try.prog 4 #[.slice a len cap] w fun e w' => e = .returned (.bool true) ∧ Below w.heap.size w w' := by
  rcases h with ⟨rfl, rfl, rfl⟩ | ⟨x, rfl, hl, hm, hc⟩
  · go_enter Try.func4, Try.ntmps4
    go_wp2_with fail
    go_loopg [3] 1 (fun k x wr => k = 1 ∧ x = .int .i64 0 ∧ wr = w)
    case atStart => exact ⟨rfl, rfl, rfl⟩
    case round =>
      obtain ⟨rfl, rfl, rfl⟩ := hrel
      go_wp2_with fail
      go_ret
      exact ⟨rfl, Below.refl _ _⟩
  · unfold maxLen at hm
    have HC : Hid _ := hc
    clear hc
    go_enter Try.func4, Try.ntmps4
    go_wp2_with fail
    go_loopg [3] len (fun m y wr => ∃ k : Nat, m = len - k ∧ k ≤ len ∧ y = .int .i64 (k : Int) ∧ Below w.heap.size w wr)
    case atStart => exact ⟨0, rfl, Nat.zero_le _, rfl, Below.refl _ _⟩
    case round =>
      obtain ⟨k, rfl, hk, rfl, hB⟩ := hrel
      by_cases hlt : k < len
      · have hlt' : (k : Int) < (len : Int) := by omega
        obtain ⟨n, s, t, h1, h2, h3, hs, ht⟩ := HC.out k hlt
        obtain ⟨b, off, spot⟩ := x
        have hspot : spot = none := by
          have := World.cell?_spot h1
          unfold Addr.add at this
          split at this
          · exact this
          · rename_i hz
            have h0 := HC.out 0 (by omega)
            obtain ⟨n0, s0, t0, g1, -⟩ := h0
            simpa [Addr.add] using World.cell?_spot g1
        subst hspot
        have e1 : (⟨b, off, none⟩ : Addr).add (k * 6) = ⟨b, off + k * 6, none⟩ := by unfold Addr.add; split <;> simp_all
        have e2 : (⟨b, off + k * 6, none⟩ : Addr).add 4 = ⟨b, off + k * 6 + 4, none⟩ := by simp [Addr.add]
        have e3 : (⟨b, off + k * 6, none⟩ : Addr).add 5 = ⟨b, off + k * 6 + 5, none⟩ := by simp [Addr.add]
        rw [e1] at h1 h2 h3
        rw [e2] at h2
        rw [e3] at h3
        have hbl : b < w.heap.size := World.block_lt_of_cell? w _ h1
        replace h1 := (hB.cell (p := ⟨b, off + k * 6, none⟩) hbl).trans h1
        replace h2 := (hB.cell (p := ⟨b, off + k * 6 + 4, none⟩) hbl).trans h2
        replace h3 := (hB.cell (p := ⟨b, off + k * 6 + 5, none⟩) hbl).trans h3
        clear e1 e2 e3
        by_cases hn : n = 2
        · subst hn
          go_wp2_with fail
          have hbl2 : b < wr.heap.size := Nat.lt_of_lt_of_le hbl hB.size
          go_region_held3 (fun w' => Below w.heap.size w w' ∧ w'.cell? ⟨b, off + k * 6 + 4, none⟩ = some (.string s) ∧ w'.cell? ⟨b, off + k * 6 + 5, none⟩ = some (.string t))
            (first | exact ⟨hB.drew, h2, h3⟩ | exact ⟨hB.drew.trans (hBx.mono hB.size), (hBx.cell (w := wr.drew) hbl2).trans h2, (hBx.cell (w := wr.drew) hbl2).trans h3⟩)
            (first
              | (go_at_call 6; refine (exec_good s t _ hs ht).mono ?_; rintro e w' ⟨rfl, hBx⟩))
          all_goals
            go_wp2_with fail
            go_roundg (len - (k + 1))
            case measure => omega
            case rel => exact ⟨k + 1, rfl, hlt, by go_num, by first | assumption | (exact hB.drew.trans (hBx.mono hB.size))⟩
        · have hn' : (n == 2) = false := by rw [beq_eq_false_iff_ne]; exact hn
          clear hn
          go_wp2_with fail
          go_roundg (len - (k + 1))
          case measure => omega
          case rel => exact ⟨k + 1, rfl, hlt, by go_num, hB⟩
      · have hlt' : decide ((k : Int) < (len : Int)) = false := by simp; omega
        go_wp2_with fail
        go_ret
        exact ⟨rfl, hB⟩

theorem Try.own : ownKnob Try.prog.godebug = none := by kernel_rfl
theorem Try.laidOut : laidOutB Try.prog = true := by kernel_rfl

theorem bulk_one {H : Type} (d : DataW H) : 1 ≤ Rows.uptoBulk d := by
  cases d with
  | lit l => cases l <;> simp [Rows.uptoBulk]
  | nil => simp [Rows.uptoBulk]
  | ptr d => simp [Rows.uptoBulk]
  | slice elems spare => simp [Rows.uptoBulk]
  | agg parts => simp [Rows.uptoBulk]
  | iface t d => simp [Rows.uptoBulk]
  | map entries => simp [Rows.uptoBulk]
  | held h => simp [Rows.uptoBulk]
theorem bulk_part {H : Type} {d : DataW H} {l : List (DataW H)} (h : d ∈ l) : Rows.uptoBulk d ≤ Rows.uptoBulkAll l := by
  induction l with
  | nil => cases h
  | cons x r ih =>
    simp only [Rows.uptoBulkAll]
    cases List.mem_cons.1 h with
    | inl e => subst e; omega
    | inr e => have := ih e; omega

end Go.Proofs.Ytanknpmojblmcaa
