/-
  The law's exec: true.
-/
import Derived.Test.YtanknpmojblmcaaXExec
set_option linter.unusedSimpArgs false
set_option linter.unusedVariables false
namespace Go.Proofs.Ytanknpmojblmcaa
open Go.RowKit

/-- The row that is handed over: the states, and two places behind them. -/
def allV (ns : List Int) : List Value := ns.map iV ++ [.int .i64 77, .int .i64 77]

theorem madeL (z : Value) (n : Nat) : madeCells #[z] n = (List.replicate n z).toArray := by rw [← toList_madeCells_one, Array.toArray_toList]
/-- copy into a row that was just made. -/
theorem copied (ns : List Int) (va : Option Addr) (vc : Nat) (w1 : World) (hI : IntsB w1.heap.size (.slice va ns.length vc) ns w1) :
    ∃ w3, (∀ ty, (Builtin.copy_ #[41, 41] ty #[.slice (some ⟨w1.heap.size, 0, none⟩) (ns.length + 2) (ns.length + 2), .slice va ns.length vc]).run Try.prog (w1.alloc (.cells (madeCells #[.int .i64 0] (ns.length + 2)) 3)) = .ok (goInt ((ns.map iV).length : Int)) w3) ∧
      w3.heap[w1.heap.size]? = some (.cells (ns.map iV ++ [Value.int .i64 0, Value.int .i64 0]).toArray 3 (0, 0)) ∧ Below w1.heap.size w1 w3 := by
  have hB2 : Below w1.heap.size w1 (w1.alloc (.cells (madeCells #[.int .i64 0] (ns.length + 2)) 3)) := (Below.refl _ w1).alloc (Nat.le_refl _) _
  have hsz : (Try.prog.info? 3).map (·.size) = some 1 := by kernel_rfl
  have hnew := whole_new w1 (.cells (madeCells #[.int .i64 0] (ns.length + 2)) 3 (0, 0))
  rcases hI.kept hB2 with ⟨hq, rfl⟩ | ⟨g, cap, hq, hc, hg, hcell⟩
  · refine ⟨_, fun ty => run_copy_none _ _ _ ty 3 _ _ _ _ _ _ Try.underlying41 hsz (by simp), ?_, hB2⟩
    rw [hnew, madeL]
    rfl
  · cases hq
    have hrun := fun ty => run_copy_row (P := Try.prog) _ 41 41 ty 3 w1.heap.size 0 (ns.length + 2) (ns.length + 2) ⟨g, 0, none⟩ ns.length vc _ 3 (ns.map iV) Try.underlying41 hsz hnew (by simp [Nat.min_def]) (by
      intro j v hj
      have hjl : j < ns.length := by
        have := (List.getElem?_eq_some_iff.1 hj).1
        simpa using this
      have e : (⟨g, 0, none⟩ : Addr).add j = ⟨g, j, none⟩ := by unfold Addr.add; split <;> simp_all
      rw [e, hcell j hjl]
      rw [List.getElem?_eq_getElem (by simpa using hjl)] at hj
      simpa [iV] using hj) (by simp [size_madeCells]) (by intro u hu; simp [iV] at hu; obtain ⟨n, _, rfl⟩ := hu; rfl)
    refine ⟨_, hrun, ?_, below_setRow hB2 (Nat.le_refl _) _⟩
    rw [setRow_heap _ _ _ _ _ _ hnew]
    have e : List.take 0 (madeCells #[Value.int .i64 0] (ns.length + 2)).toList ++ List.map iV ns ++ List.drop (0 + (List.map iV ns).length) (madeCells #[Value.int .i64 0] (ns.length + 2)).toList = ns.map iV ++ [Value.int .i64 0, Value.int .i64 0] := by
      rw [toList_madeCells_one, List.length_map, Nat.zero_add, List.drop_replicate, Nat.add_sub_cancel_left]
      simp
    rw [e]

set_option maxRecDepth 100000 in
set_option maxHeartbeats 4000000 in
theorem exec_good (S T : ByteArray) (w : World) (hS : S.size ≤ maxLen) (hT : T.size ≤ 1048576) :
    Calls Try.prog 6 #[.string S, .string T] w fun e w' => e = .returned (.bool true) ∧ Below w.heap.size w w' := by
  have hlen : (stL T.data.toList).length = T.size := by simp [stL]
  have hE := runE_refE S.data.toList (stL T.data.toList)
  go_enter Try.func6, Try.ntmps6
  go_wp2_with fail
  refine (states_any T _ hT).mono ?_
  rintro e w1 ⟨v, rfl, hown, hB1⟩
  generalize stL T.data.toList = ns at *
  have hnl : ns.length ≤ 1048576 := by omega
  clear hlen
  have hI := ints_of_row hown
  clear hown
  obtain ⟨va, vc, rfl⟩ := hI.form
  have hmk : ∀ u : World, (Instr.makeSlice 41 (.int .i64 ((ns.length : Int) + 2)) (.int .i64 ((ns.length : Int) + 2))).run Try.prog u = .ok (.slice (some ⟨u.heap.size, 0, none⟩) (ns.length + 2) (ns.length + 2)) (u.alloc (.cells (madeCells #[.int .i64 0] (ns.length + 2)) 3)) := by
    intro u
    have := run_make_row' (P := Try.prog) 41 3 (.int .i64 0) 8 Try.underlying41 infoInt rfl .i64 .i64 (ns.length + 2) (by omega) (by omega) u
    simpa using this
  have hs1 := hB1.size
  obtain ⟨w3, hcp0, G3, hB3⟩ := copied ns va vc w1 hI
  have hcp := hcp0 3
  clear hcp0
  have cn : w3.cell? ⟨w1.heap.size, ns.length, none⟩ = some (.int .i64 0) := by rw [whole_cell G3]; simp
  have cn1 : w3.cell? ⟨w1.heap.size, ns.length + 1, none⟩ = some (.int .i64 0) := by rw [whole_cell G3]; simp
  have zn := whole_frozen G3 ns.length
  have zn1 := whole_frozen G3 (ns.length + 1)
  have G5 : ((w3.setCell ⟨w1.heap.size, ns.length, none⟩ (.int .i64 77)).setCell ⟨w1.heap.size, ns.length + 1, none⟩ (.int .i64 77)).heap[w1.heap.size]? = some (.cells (allV ns).toArray 3 (0, 0)) := by
    rw [whole_set (whole_set G3 ns.length (.int .i64 77)) (ns.length + 1) (.int .i64 77)]
    congr 2
    apply Array.ext'
    simp [allV]
  have hB5 : Below w1.heap.size w1 ((w3.setCell ⟨w1.heap.size, ns.length, none⟩ (.int .i64 77)).setCell ⟨w1.heap.size, ns.length + 1, none⟩ (.int .i64 77)) := (hB3.setCell (Nat.le_refl _) _).setCell (Nat.le_refl _) _
  have hg5 : w1.heap.size < ((w3.setCell ⟨w1.heap.size, ns.length, none⟩ (.int .i64 77)).setCell ⟨w1.heap.size, ns.length + 1, none⟩ (.int .i64 77)).heap.size := whole_lt G5
  go_wp2_with fail
  generalize (w3.setCell ⟨w1.heap.size, ns.length, none⟩ (.int .i64 77)).setCell ⟨w1.heap.size, ns.length + 1, none⟩ (.int .i64 77) = w5 at *
  have hA5 : IntsB w5.heap.size (.slice (some ⟨w1.heap.size, 0, none⟩) ns.length (ns.length + 2)) ns w5 := by
    refine Or.inr ⟨_, _, rfl, by omega, hg5, ?_⟩
    intro k hk
    rw [whole_cell G5]
    simp [allV, iV, List.getElem?_append_left, hk]
  have hI5 := (hI.kept hB5).mono hB5.size
  have hbw5 : Below w.heap.size w w5 := hB1.trans (hB5.mono hB1.size)
  clear cn cn1 zn zn1 G3 hB3 hcp hmk
  refine (Exec_any S _ ns _ hA5 hS).mono ?_
  rintro e w6 ⟨rfl, hB6⟩
  rw [hE]
  have hI6 := (hI5.kept hB6).mono hB6.size
  go_wp2_with fail
  refine (refExec_any S _ ns _ hI6 hS).mono ?_
  rintro e w7 ⟨rfl, hB7⟩
  replace hB7 := hB6.trans (hB7.mono hB6.size)
  have hA7 := hA5.kept hB7
  have hI7 := hI5.kept hB7
  go_wp2_with fail
  refine (sameInts_eq _ _ _ ns _ hA7 hI7 hnl).mono ?_
  rintro e w8 ⟨rfl, n8, hw8⟩
  have G8 : w8.heap[w1.heap.size]? = some (.cells (allV ns).toArray 3 (0, 0)) := by
    rw [hw8]; exact (hB7.block _ hg5).trans G5
  have hB8 : Below w.heap.size w w8 := by
    rw [hw8]; exact below_drewN (hbw5.trans (hB7.mono hbw5.size)) n8
  clear hw8
  have cn : w8.cell? ⟨w1.heap.size, ns.length, none⟩ = some (.int .i64 77) := by rw [whole_cell G8]; simp [allV]
  have cn1 : w8.cell? ⟨w1.heap.size, ns.length + 1, none⟩ = some (.int .i64 77) := by rw [whole_cell G8]; simp [allV]
  have q1 : (((refE S.data.toList ns).1 : Int) == ((refE S.data.toList ns).1 : Int)) = true := by simp
  have q2 : (((refE S.data.toList ns).2 : Int) == ((refE S.data.toList ns).2 : Int)) = true := by simp
  go_wp2_with fail
  go_ret
  exact ⟨rfl, hB8⟩

end Go.Proofs.Ytanknpmojblmcaa
