/-
  asFactor, and a factor that has no brackets.
-/
import Derived.Test.YtanknpmojblmcaaGreatDoorLay
import Derived.Test.YtanknpmojblmcaaGreatDoorSpec2
import Derived.BigRegion
import Derived.Handy
set_option linter.unusedSimpArgs false
set_option linter.unusedVariables false
namespace Go.Proofs.YtanknpmojblmcaaGreatDoor
open Go.RowKit

/-- A plain of the program. -/
def plV (p : List UInt8 × Nat) : Value := .agg #[.string (bs p.1), .int .i64 (p.2 : Int)]

set_option maxHeartbeats 400000 in
theorem asFactor_any (p : List UInt8 × Nat) (w : World) (h1 : p.1.length ≤ 3000) (h2 : p.2 ≤ 3000) :
    Calls Tryz.prog 153 #[plV p] w fun e w' => e = .returned (.string (bs (asF p))) ∧ ∃ o, w' = w.alloc o := by
  unfold plV
  have hs := bs_size p.1
  by_cases h : 1 < p.2
  · have h' : (1 : Int) < (p.2 : Int) := by omega
    go_enter Tryz.func153, Tryz.ntmps153
    go_wp2_with fail
    go_ret
    refine ⟨ret_str ?_, _, rfl⟩
    have e : asF p = [40] ++ p.1 ++ [41] := by simp [asF, h]
    rw [e, ← bs_append, ← bs_append]; rfl
  · have h' : ¬ (1 : Int) < (p.2 : Int) := by omega
    go_enter Tryz.func153, Tryz.ntmps153
    go_wp2_with fail
    go_ret
    exact ⟨ret_str (by simp [asF, h]), _, rfl⟩

theorem pk_40 {c : Nat} {L : List UInt8} {s : Nat × Bool} (h : pk L s = c) (h0 : c ≠ 0) : s.2 = false ∧ s.1 < L.length := by
  unfold pk at h
  split at h
  · omega
  · rename_i hf; exact ⟨by simpa using hf, byt_in (by omega)⟩

/-- A new struct's cells behind a call that left it alone. -/
theorem Aside.new {b : Nat} {w w1 : World} {c : Array Value} {t : TypeId} (h : Aside b (w.alloc (.cells c t)) w1) (hb : b < w.heap.size) : w1.heap[w.heap.size]? = some (.cells c t (0, 0)) :=
  (h.block w.heap.size (by simp) (by omega)).trans (whole_new w _)
theorem AsV.new {b : Nat} {v u : Value} {w w1 : World} {c : Array Value} {t : TypeId} (h : AsV b v u (w.alloc (.cells c t)) w1) (hb : b < w.heap.size) (hv : v.ownBlock ≠ some w.heap.size) : w1.heap[w.heap.size]? = some (.cells c t (0, 0)) :=
  (h.block w.heap.size (by simp) (by omega) hv).trans (whole_new w _)
theorem Sr.new {b : Nat} {rv : Value} {S : List Stp} {w : World} (h : Sr b rv S w) : rv.ownBlock ≠ some w.heap.size := by
  intro e
  have := (h.lt _ e).2; omega
theorem Aside.below {b : Nat} {w w1 : World} {o : Obj} (h : Aside b (w.alloc o) w1) : Aside b w w1 := ((Aside.refl b w).alloc o).trans h

end Go.Proofs.YtanknpmojblmcaaGreatDoor
