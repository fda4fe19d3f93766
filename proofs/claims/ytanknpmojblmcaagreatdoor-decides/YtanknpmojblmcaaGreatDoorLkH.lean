/-
  Package link: HasRef of a step; the group of a head.
-/
import Derived.Test.YtanknpmojblmcaaGreatDoorLkG
import Derived.Test.YtanknpmojblmcaaGreatDoorHeadW
import Derived.Laws.IdiomStrings
set_option linter.unusedSimpArgs false
set_option linter.unusedVariables false
namespace Go.Proofs.YtanknpmojblmcaaGreatDoor
open Go.RowKit

def hasR (x : Stp) : Bool := decide (x.op = 1) || (decide (x.op = 2) || decide (x.op = 3))

set_option maxHeartbeats 1000000 in
theorem lkHasRef (x : Stp) (h : x.op ≤ 6) (w : World) :
    Calls Tryz.prog 45 #[.agg (spC x)] w fun e w' => e = .returned (.bool (hasR x)) ∧ Below w.heap.size w w' := by
  have hc : x.op = 0 ∨ x.op = 1 ∨ x.op = 2 ∨ x.op = 3 ∨ x.op = 4 ∨ x.op = 5 ∨ x.op = 6 := by omega
  unfold hasR spC
  rcases hc with h | h | h | h | h | h | h
  all_goals
    rw [h]
    go_enter Tryz.func45, Tryz.ntmps45
    go_wp2_with fail
    go_ret
    exact ⟨rfl, (Below.refl _ w).alloc (Nat.le_refl _) _⟩

/-- A string is copied by way of bytes. -/
theorem conv_copy (T : ByteArray) (W : World) : ∃ a c x, (convert 9 144 (.string T)).run Tryz.prog W = .ok (.slice (some a) T.size c) x ∧ (convert 144 9 (.slice (some a) T.size c)).run Tryz.prog x = .ok (.string T) x ∧ Below W.heap.size W x := by
  refine ⟨_, _, _, run_bytes_of_string (P := Tryz.prog) W 9 144 5 T Tryz.underlying9 Tryz.underlying144 Tryz.underlying5, ?_, ?_⟩
  · have q := run_convert_bytes_back (P := Tryz.prog) (W.drew.alloc (.cells (bytesRow T (grownCap W T.size 0 5)) 5 ((bytesRow T (grownCap W T.size 0 5)).size, (bytesRow T (grownCap W T.size 0 5)).size + 1))) 144 9 5 ⟨W.heap.size, 0, none⟩ (grownCap W T.size 0 5) T.data.toList Tryz.underlying144 Tryz.underlying5 Tryz.underlying9 ?_
    · have e1 : T.data.toList.length = T.size := by simp
      have e2 : (⟨T.data.toList.toArray⟩ : ByteArray) = T := by simp
      rw [e1, e2] at q
      exact q
    · intro j hj
      have hj' : j < T.data.size := by simpa using hj
      have e : (⟨W.heap.size, 0, none⟩ : Addr).add j = ⟨W.heap.size, j, none⟩ := by unfold Addr.add; split <;> simp_all
      rw [e, cell_of_row _ W.heap.size j _ _ _ (heap_alloc_new W.drew _), bytesRow_at T _ j hj']
      simp
  · exact (Below.refl _ W).drew.alloc (Nat.le_refl _) _

/-- The group of a head. -/
def grpH (h : HV) (first : Nat) : GV := if h.arr then ⟨h.name, true, h.lo, first, h.hi + 1 - h.lo⟩ else ⟨h.name, false, 0, first, 1⟩

set_option maxRecDepth 100000 in
set_option maxHeartbeats 4000000 in
theorem lkGroup (h : HV) (q : Value) (first : Nat) (w : World) (h1 : h.name.length ≤ 1000) (h2 : h.arr = true → h.lo ≤ h.hi) (h3 : h.hi ≤ 1000) (h4 : first ≤ 1000) :
    Calls Tryz.prog 44 #[.agg (hvC h q), .int .i64 (first : Int)] w fun e w' => e = .returned (.agg (gvC (grpH h first))) ∧ Below w.heap.size w w' := by
  unfold hvC
  obtain ⟨ca, cc, x, hx1, hx2, hBx⟩ := conv_copy (bs h.name) ((w.alloc (.cells #[.string (bs h.name), .int .i64 (h.nodes : Int), .int .i64 (h.time : Int), .bool h.arr, .int .i64 (h.lo : Int), .int .i64 (h.hi : Int), .string (bs h.after), q, .int .i64 (h.nameAt : Int), .int .i64 (h.nodesAt : Int), .int .i64 (h.timeAt : Int), .int .i64 (h.arrayAt : Int)] 64)).alloc (.cells #[.string ⟨#[]⟩, .bool false, .int .i64 0, .int .i64 0, .int .i64 0] 107))
  have Y0 := whole_alloc (whole_new w (.cells #[.string (bs h.name), .int .i64 (h.nodes : Int), .int .i64 (h.time : Int), .bool h.arr, .int .i64 (h.lo : Int), .int .i64 (h.hi : Int), .string (bs h.after), q, .int .i64 (h.nameAt : Int), .int .i64 (h.nodesAt : Int), .int .i64 (h.timeAt : Int), .int .i64 (h.arrayAt : Int)] 64 (0, 0))) (.cells #[.string ⟨#[]⟩, .bool false, .int .i64 0, .int .i64 0, .int .i64 0] 107 (0, 0))
  have Y1 := whole_new (w.alloc (.cells #[.string (bs h.name), .int .i64 (h.nodes : Int), .int .i64 (h.time : Int), .bool h.arr, .int .i64 (h.lo : Int), .int .i64 (h.hi : Int), .string (bs h.after), q, .int .i64 (h.nameAt : Int), .int .i64 (h.nodesAt : Int), .int .i64 (h.timeAt : Int), .int .i64 (h.arrayAt : Int)] 64 (0, 0))) (.cells #[.string ⟨#[]⟩, .bool false, .int .i64 0, .int .i64 0, .int .i64 0] 107 (0, 0))
  rw [World.size_alloc] at Y1
  have X0 := (hBx.block _ (whole_lt Y0)).trans Y0
  have X1 := (hBx.block _ (whole_lt Y1)).trans Y1
  have HB : Hid (Below w.heap.size w x) := (((Below.refl _ w).alloc (Nat.le_refl _) _).alloc (by simp) _).trans (hBx.mono (by simp; omega))
  have d3 := whole_cell X0 3; have d4 := whole_cell X0 4; have d5 := whole_cell X0 5
  simp at d3 d4 d5
  have g0 := whole_cell X1 0; have g1 := whole_cell X1 1; have g2 := whole_cell X1 2; have g3 := whole_cell X1 3; have g4 := whole_cell X1 4
  simp at g0 g1 g2 g3 g4
  have f0 := whole_frozen X1 0; have f1 := whole_frozen X1 1; have f2 := whole_frozen X1 2; have f3 := whole_frozen X1 3; have f4 := whole_frozen X1 4
  have hne : w.heap.size ≠ w.heap.size + 1 := by omega
  have hne' : w.heap.size + 1 ≠ w.heap.size := by omega
  have hl0 := whole_lt X0
  have hl1 := whole_lt X1
  have HX1 : Hid (x.heap[w.heap.size + 1]? = _) := X1
  clear Y0 Y1 hBx X0 X1
  cases ha : h.arr with
  | false =>
    rw [ha] at hx1 d3
    have HE : Hid (grpH h first = ⟨h.name, false, 0, first, 1⟩) := by show _ = _; unfold grpH; rw [ha]; rfl
    go_enter Tryz.func44, Tryz.ntmps44
    go_wp2_with fail
    refine bodyPost_ret (results_cell_row rfl _ _ (w.heap.size + 1) 107 (gvC ⟨h.name, false, 0, first, 1⟩) (0, 0) _ (by rfl) (whole_alloc (group_set noG ⟨h.name, false, 0, first, 1⟩ HX1.out) _) Tryz.underlying107 (by rfl) (by kernel_rfl)) rfl ?_
    exact ⟨by rw [HE.out], ((((((HB.out.setCell (p := ⟨w.heap.size + 1, 0, none⟩) (by simp) _).setCell (p := ⟨w.heap.size + 1, 1, none⟩) (by simp) _).setCell (p := ⟨w.heap.size + 1, 2, none⟩) (by simp) _).setCell (p := ⟨w.heap.size + 1, 3, none⟩) (by simp) _).setCell (p := ⟨w.heap.size + 1, 4, none⟩) (by simp) _).alloc (by simp; omega) _)⟩
  | true =>
    rw [ha] at hx1 d3
    have h5 := h2 ha
    have HE : Hid (grpH h first = ⟨h.name, true, h.lo, first, h.hi + 1 - h.lo⟩) := by show _ = _; unfold grpH; rw [ha]; rfl
    have HC : Hid ((h.hi : Int) - (h.lo : Int) + 1 = ((h.hi + 1 - h.lo : Nat) : Int)) := by show _ = _; omega
    go_enter Tryz.func44, Tryz.ntmps44
    go_wp2_with fail
    rw [HC.out]
    refine bodyPost_ret (results_cell_row rfl _ _ (w.heap.size + 1) 107 (gvC ⟨h.name, true, h.lo, first, h.hi + 1 - h.lo⟩) (0, 0) _ (by rfl) (whole_alloc (group_set noG ⟨h.name, true, h.lo, first, h.hi + 1 - h.lo⟩ HX1.out) _) Tryz.underlying107 (by rfl) (by kernel_rfl)) rfl ?_
    exact ⟨by rw [HE.out], ((((((HB.out.setCell (p := ⟨w.heap.size + 1, 0, none⟩) (by simp) _).setCell (p := ⟨w.heap.size + 1, 1, none⟩) (by simp) _).setCell (p := ⟨w.heap.size + 1, 2, none⟩) (by simp) _).setCell (p := ⟨w.heap.size + 1, 3, none⟩) (by simp) _).setCell (p := ⟨w.heap.size + 1, 4, none⟩) (by simp) _).alloc (by simp; omega) _)⟩
end Go.Proofs.YtanknpmojblmcaaGreatDoor
