/-
  A feed's next number; pick; names out of numbers.
-/
import Derived.Test.YtanknpmojblmcaaDoorSkip
import Derived.IntWalk
set_option linter.unusedSimpArgs false
set_option linter.unusedVariables false
namespace Go.Proofs.YtanknpmojblmcaaDoor
open Go.RowKit

/-- A feed: its bytes, how many are used up. -/
def Fd (b : Nat) (T : ByteArray) (i : Nat) (w : World) : Prop := w.heap[b]? = some (.cells #[.string T, .int .i64 i] 41 (0, 0))
theorem Fd.c0 {b : Nat} {T : ByteArray} {i : Nat} {w : World} (h : Fd b T i w) : w.cell? ⟨b, 0, none⟩ = some (.string T) := by rw [whole_cell h]; rfl
theorem Fd.c1 {b : Nat} {T : ByteArray} {i : Nat} {w : World} (h : Fd b T i w) : w.cell? ⟨b, 1, none⟩ = some (.int .i64 i) := by rw [whole_cell h]; rfl
theorem Fd.z {b : Nat} {T : ByteArray} {i : Nat} {w : World} (h : Fd b T i w) (k : Nat) : w.frozen? ⟨b, k, none⟩ = false := whole_frozen h k
theorem Fd.setAt {b : Nat} {T : ByteArray} {i : Nat} {w : World} (h : Fd b T i w) (j : Nat) {v : Value} (hv : v = .int .i64 j) : Fd b T j (w.setCell ⟨b, 1, none⟩ v) := by
  subst hv; exact whole_set h 1 _
theorem Fd.lt {b : Nat} {T : ByteArray} {i : Nat} {w : World} (h : Fd b T i w) : b < w.heap.size := whole_lt h
theorem Fd.kept {b c : Nat} {T : ByteArray} {i : Nat} {w w' : World} (h : Fd b T i w) (k : Aside c w w') (hc : b ≠ c) : Fd b T i w' := (k.block b (whole_lt h) hc).trans h
theorem Fd.alloc {b : Nat} {T : ByteArray} {i : Nat} {w : World} (h : Fd b T i w) (o : Obj) : Fd b T i (w.alloc o) := whole_alloc h o

set_option maxHeartbeats 400000 in
theorem pick_any (c n : Nat) (hc : c ≤ 100) (hn : 0 < n) (hn2 : n ≤ 100) (w : World) :
    Calls Tryd.prog 13 #[.int .i64 (c : Int), .int .i64 (n : Int)] w fun e w' => e = .returned (.int .i64 ((c % n : Nat) : Int)) ∧ w' = w := by
  have h1 : decide ((c : Int) < 0) = false := by simp
  have h2 : (n : Int) ≠ 0 := by omega
  go_enter Tryd.func13, Tryd.ntmps13
  go_wp2_with fail
  go_ret
  exact ⟨ret_int (by omega), rfl⟩

/-- A feed, whatever it holds. -/
def FdA (b : Nat) (w : World) : Prop := ∃ T i, Fd b T i w ∧ T.size ≤ maxLen ∧ i ≤ T.size
theorem FdA.lt {b : Nat} {w : World} (h : FdA b w) : b < w.heap.size := by obtain ⟨T, i, h, _⟩ := h; exact h.lt
theorem FdA.kept {b c : Nat} {w w' : World} (h : FdA b w) (k : Aside c w w') (hc : b ≠ c) : FdA b w' := by obtain ⟨T, i, h, h2⟩ := h; exact ⟨T, i, h.kept k hc, h2⟩
theorem FdA.block {b : Nat} {w w' : World} (h : FdA b w) (k : w'.heap[b]? = w.heap[b]?) : FdA b w' := by obtain ⟨T, i, h, h2⟩ := h; exact ⟨T, i, k.trans h, h2⟩
theorem FdA.alloc {b : Nat} {w : World} (h : FdA b w) (o : Obj) : FdA b (w.alloc o) := by obtain ⟨T, i, h, h2⟩ := h; exact ⟨T, i, h.alloc o, h2⟩

set_option maxHeartbeats 400000 in
theorem next_any (b n : Nat) (w : World) (h : FdA b w) (hn : 0 < n) (hn2 : n ≤ 100) :
    Calls Tryd.prog 8 #[.pointer (some ⟨b, 0, none⟩), .int .i64 (n : Int)] w fun e w' => ∃ k : Nat, k < n ∧ e = .returned (.int .i64 (k : Int)) ∧ FdA b w' ∧ Aside b w w' := by
  obtain ⟨T, i, h, hT, hi⟩ := h
  have h0 := h.c0; have h1 := h.c1; have hz := h.z 1
  have hm : T.size ≤ 9223372036854775807 := by unfold maxLen at hT; omega
  by_cases hlt : i < T.size
  · have hi' : (i : Int) < (T.size : Int) := by omega
    have hd : decide ((T.size : Int) ≤ (i : Int)) = false := by simp; omega
    have h2 : (n : Int) ≠ 0 := by omega
    go_enter Tryd.func8, Tryd.ntmps8
    go_wp2_with fail
    go_quiet (fail)
    go_wp2_with fail
    go_quiet (fail)
    go_wp2_with fail
    go_ret
    refine ⟨T[i].toNat % n, Nat.mod_lt _ hn, ret_int ?_, ⟨T, i + 1, Fd.setAt (w := w.drewN _) h (i + 1) (by simp), hT, hlt⟩, ((Aside.refl b w).drewN _).setCell (Or.inl rfl) _⟩
    have hb : T[i].toNat < 256 := UInt8.toNat_lt _
    rw [show Go.RowKit.wrap64 (T[i].toNat : Int) = (T[i].toNat : Int) from by unfold Go.RowKit.wrap64; omega]
    rfl
  · have hd : decide ((T.size : Int) ≤ (i : Int)) = true := by simp; omega
    go_enter Tryd.func8, Tryd.ntmps8
    go_wp2_with fail
    go_quiet (fail)
    go_wp2_with fail
    go_ret
    exact ⟨0, hn, rfl, ⟨T, i, h, hT, hi⟩, (Aside.refl b w).drewN _⟩

end Go.Proofs.YtanknpmojblmcaaDoor
