/-
  A new system: New, Status, Clock; Submit of a text that is no batch.
-/
import Derived.Test.YtanknpmojblmcaaGreatDoorReadW
import Derived.Test.YtanknpmojblmcaaGreatDoorKCutA
import Derived.Laws.ResultCell
import Derived.Laws.Rows
set_option linter.unusedSimpArgs false
set_option linter.unusedVariables false
namespace Go.Proofs.YtanknpmojblmcaaGreatDoor
open Go.RowKit

/-- A system of eight nodes without jobs. -/
def Sy (s : Nat) (w : World) : Prop := w.heap[s]? = some (.cells #[.slice none 0 0, .int .i64 8, .int .i64 0, .slice none 0 0, .slice none 0 0] 74 (0, 0))
theorem Sy.lt {s : Nat} {w : World} (h : Sy s w) : s < w.heap.size := whole_lt h
theorem Sy.below {s N : Nat} {w w' : World} (h : Sy s w) (hB : Below N w w') (hs : s < N) : Sy s w' := (hB.block s hs).trans h
theorem Sy.c {s : Nat} {w : World} (h : Sy s w) (i : Nat) : w.cell? ⟨s, i, none⟩ = (#[.slice none 0 0, .int .i64 8, .int .i64 0, .slice none 0 0, .slice none 0 0] : Array Value)[i]? := whole_cell h i

theorem Sy.ac {s : Nat} {w : World} (h : Sy s w) (i : Nat) (o : Obj) : (w.alloc o).cell? ⟨s, i, none⟩ = (#[.slice none 0 0, .int .i64 8, .int .i64 0, .slice none 0 0, .slice none 0 0] : Array Value)[i]? := whole_cell (whole_alloc h o) i

theorem resCT {P : Program} {fn : Func} {p u : Tmp} {ty : TypeId} (h : fn.results = #[.cell p ty, .tmp u]) (tmps : Array Value) (w : World) (g : Nat) (t : TypeId) (cs : Array Value) (fr : Nat × Nat) (d : TypeDesc)
    (hp : tmps.getD p undef = .pointer (some ⟨g, 0, none⟩)) (hg : w.heap[g]? = some (.cells cs t fr))
    (hu : P.underlying ty = some d) (hd : (match d with | .struct _ | .array _ _ => true | _ => false) = true) (hi : (P.info? ty).map (·.size) = some cs.size) :
    (results fn tmps).run P w = .ok (.tuple #[.agg cs, tmps.getD u undef]) w := by
  rw [results_cell_tmp h, hp]
  simp [asAddr, Result.andThen, run_loadVar_row w g t ty cs fr d hg hu hd hi]

set_option maxHeartbeats 1000000 in
theorem poolNew_any (n : Int) (w : World) :
    Calls Tryz.prog 43 #[.int .i64 n] w fun e w' => e = .returned (.agg #[.int .i64 n, .int .i64 0, .slice none 0 0, .slice none 0 0]) ∧ Below w.heap.size w w' := by
  go_enter Tryz.func43, Tryz.ntmps43
  go_wp2_with fail
  refine bodyPost_ret (results_cell_row rfl _ _ w.heap.size 72 #[.int .i64 n, .int .i64 0, .slice none 0 0, .slice none 0 0] (0, 0) _ (by rfl) (whole_new w _) Tryz.underlying72 (by rfl) (by kernel_rfl)) rfl ?_
  exact ⟨rfl, (Below.refl _ w).alloc (Nat.le_refl _) _⟩

set_option maxHeartbeats 1000000 in
theorem New_eight (w : World) :
    Calls Tryz.prog 17 #[.int .i64 8] w fun e w' => ∃ s, e = .returned (.tuple #[.pointer (some ⟨s, 0, none⟩), .int .i64 0]) ∧ w.heap.size ≤ s ∧ Sy s w' ∧ Below w.heap.size w w' := by
  go_enter Tryz.func17, Tryz.ntmps17
  go_wp2_with fail
  refine (poolNew_any 8 _).mono ?_
  rintro e w1 ⟨rfl, hB⟩
  go_wp2_with fail
  go_ret2
  exact ⟨_, rfl, hB.size, whole_new w1 _, hB.alloc hB.size _⟩

set_option maxHeartbeats 1000000 in
theorem poolHas_zero (s : Nat) (w : World) (h : Sy s w) :
    Calls Tryz.prog 94 #[.pointer (some ⟨s, 1, none⟩), .int .i64 0] w fun e w' => e = .returned (.bool false) ∧ w' = w := by
  have h3 := h.c 3
  simp at h3
  go_enter Tryz.func94, Tryz.ntmps94
  go_wp2_with fail
  go_ret
  exact ⟨rfl, rfl⟩

set_option maxHeartbeats 1000000 in
theorem poolStatus_zero (s : Nat) (w : World) (h : Sy s w) :
    Calls Tryz.prog 55 #[.pointer (some ⟨s, 1, none⟩), .int .i64 0] w fun e w' => e = .returned (.tuple #[.agg #[.int .i64 0, .int .i64 0, .int .i64 0, .int .i64 0, .int .i64 0], .int .i64 11]) ∧ Below w.heap.size w w' := by
  go_enter Tryz.func55, Tryz.ntmps55
  go_wp2_with fail
  refine (poolHas_zero s _ (whole_alloc h _)).mono ?_
  rintro e w1 ⟨rfl, rfl⟩
  go_wp2_with fail
  refine bodyPost_ret (resCT rfl _ _ w.heap.size 82 #[.int .i64 0, .int .i64 0, .int .i64 0, .int .i64 0, .int .i64 0] (0, 0) _ (by rfl) (whole_new w _) Tryz.underlying82 (by rfl) (by kernel_rfl)) rfl ?_
  exact ⟨rfl, (Below.refl _ w).alloc (Nat.le_refl _) _⟩

set_option maxHeartbeats 1000000 in
theorem Status_zero (s : Nat) (w : World) (h : Sy s w) :
    Calls Tryz.prog 27 #[.pointer (some ⟨s, 0, none⟩), .int .i64 0] w fun e w' => e = .returned (.tuple #[.agg #[.int .i64 0, .int .i64 0, .int .i64 0, .int .i64 0, .int .i64 0], .int .i64 11]) ∧ Below w.heap.size w w' := by
  go_enter Tryz.func27, Tryz.ntmps27
  go_wp2_with fail
  have hW := (Below.refl _ w).alloc (Nat.le_refl _) (.cells #[.int .i64 0, .int .i64 0, .int .i64 0, .int .i64 0, .int .i64 0] 82)
  have Y := whole_new w (.cells #[.int .i64 0, .int .i64 0, .int .i64 0, .int .i64 0, .int .i64 0] 82 (0, 0))
  refine (poolStatus_zero s _ (whole_alloc h _)).mono ?_
  rintro e w1 ⟨rfl, hB⟩
  have Y1 := (hB.block _ (whole_lt Y)).trans Y
  replace hW := hW.trans (hB.mono (by simp))
  have z0 := whole_frozen Y1 0; have z1 := whole_frozen Y1 1; have z2 := whole_frozen Y1 2; have z3 := whole_frozen Y1 3; have z4 := whole_frozen Y1 4
  have k0 := whole_cell Y1 0; have k1 := whole_cell Y1 1; have k2 := whole_cell Y1 2; have k3 := whole_cell Y1 3; have k4 := whole_cell Y1 4
  simp at k0 k1 k2 k3 k4
  go_wp2_with fail
  refine bodyPost_ret (resCT rfl _ _ w.heap.size 82 #[.int .i64 0, .int .i64 0, .int .i64 0, .int .i64 0, .int .i64 0] (0, 0) _ (by rfl) (whole_set (whole_set (whole_set (whole_set (whole_set Y1 0 _) 1 _) 2 _) 3 _) 4 _) Tryz.underlying82 (by rfl) (by kernel_rfl)) rfl ?_
  exact ⟨rfl, ((((hW.setCell (Nat.le_refl _) _).setCell (Nat.le_refl _) _).setCell (Nat.le_refl _) _).setCell (Nat.le_refl _) _).setCell (Nat.le_refl _) _⟩

set_option maxHeartbeats 1000000 in
theorem poolNow_new (s : Nat) (w : World) (h : Sy s w) :
    Calls Tryz.prog 56 #[.pointer (some ⟨s, 1, none⟩)] w fun e w' => e = .returned (.int .i64 0) ∧ w' = w := by
  have h3 := h.c 2
  simp at h3
  go_enter Tryz.func56, Tryz.ntmps56
  go_wp2_with fail
  go_ret
  exact ⟨rfl, rfl⟩
set_option maxHeartbeats 1000000 in
theorem poolCount_new (s : Nat) (w : World) (h : Sy s w) :
    Calls Tryz.prog 20 #[.pointer (some ⟨s, 1, none⟩)] w fun e w' => e = .returned (.int .i64 0) ∧ w' = w := by
  have h3 := h.c 3
  simp at h3
  go_enter Tryz.func20, Tryz.ntmps20
  go_wp2_with fail
  go_ret
  exact ⟨rfl, rfl⟩
set_option maxHeartbeats 1000000 in
theorem poolFree_new (s : Nat) (w : World) (h : Sy s w) :
    Calls Tryz.prog 57 #[.pointer (some ⟨s, 1, none⟩)] w fun e w' => e = .returned (.int .i64 8) ∧ w' = w := by
  have h1 := h.c 1
  have h3 := h.c 3
  simp at h1 h3
  go_enter Tryz.func57, Tryz.ntmps57
  go_wp2_with fail
  go_loopg [3, 15] 1 (fun k u x wr => k = 1 ∧ u = .int .i64 8 ∧ x = .int .i64 0 ∧ wr = w)
  case atStart => exact ⟨rfl, rfl, rfl, rfl⟩
  case round =>
    obtain ⟨rfl, rfl, rfl, rfl⟩ := hrel
    go_wp2_with fail
    go_ret
    exact ⟨rfl, rfl⟩

set_option maxHeartbeats 1000000 in
theorem Clock_new (s : Nat) (w : World) (h : Sy s w) :
    Calls Tryz.prog 29 #[.pointer (some ⟨s, 0, none⟩)] w fun e w' => e = .returned (.tuple #[.int .i64 0, .int .i64 8, .int .i64 0]) ∧ Below w.heap.size w w' := by
  go_enter Tryz.func29, Tryz.ntmps29
  go_wp2_with fail
  have h0 : Sy s w.drew ∧ Below w.heap.size w w.drew := ⟨h, (Below.refl _ _).drew⟩
  go_region_held3 (fun w' => Sy s w' ∧ Below w.heap.size w w')
    (first | exact h0 | assumption)
    (first
      | (go_at_call 56; refine (poolNow_new s _ (by first | exact h | exact And.left (by assumption))).mono ?_; rintro e w' ⟨rfl, rfl⟩)
      | (go_at_call 57; refine (poolFree_new s _ (by first | exact h | exact And.left (by assumption))).mono ?_; rintro e w' ⟨rfl, rfl⟩)
      | (go_at_call 20; refine (poolCount_new s _ (by first | exact h | exact And.left (by assumption))).mono ?_; rintro e w' ⟨rfl, rfl⟩))
  go_wp2_with fail
  go_ret3
  exact ⟨rfl, h0.2⟩

/-- What is known of a new system. -/
def Wo (b s k : Nat) (w : World) : Prop := w.heap[b]? = some (.cells #[.pointer (some ⟨s, 0, none⟩), .int .i64 8, .int .i64 0, .pointer (some ⟨k, 0, none⟩)] 41 (0, 0))
theorem Wo.c {b s k : Nat} {w : World} (h : Wo b s k w) (i : Nat) : w.cell? ⟨b, i, none⟩ = (#[.pointer (some ⟨s, 0, none⟩), .int .i64 8, .int .i64 0, .pointer (some ⟨k, 0, none⟩)] : Array Value)[i]? := whole_cell h i
/-- A book without heads. -/
def Bk0 (b : Nat) (w : World) : Prop := w.heap[b]? = some (.cells #[.slice none 0 0, .int .i64 0, .int .i64 0] 25 (0, 0))
theorem Bk0.c {b : Nat} {w : World} (h : Bk0 b w) (i : Nat) : w.cell? ⟨b, i, none⟩ = (#[.slice none 0 0, .int .i64 0, .int .i64 0] : Array Value)[i]? := whole_cell h i

set_option maxHeartbeats 1000000 in
theorem begin_seven (w : World) :
    Calls Tryz.prog 9 #[.int .i64 7] w fun e w' => ∃ b s k, e = .returned (.tuple #[.pointer (some ⟨b, 0, none⟩), .bool true]) ∧ Wo b s k w' ∧ Sy s w' ∧ Bk0 k w' ∧ Below w.heap.size w w' := by
  go_enter Tryz.func9, Tryz.ntmps9
  go_wp2_with fail
  refine (pick_any 7 8 (by omega) (by omega) (by omega) _).mono ?_
  rintro e w1 ⟨rfl, rfl⟩
  go_wp2_with fail
  refine (New_eight _).mono ?_
  rintro e w2 ⟨s, rfl, hs, hS, hB⟩
  go_wp2_with fail
  go_ret2
  refine ⟨_, s, w2.heap.size, rfl, ?_, whole_alloc (whole_alloc hS _) _, whole_alloc (whole_new w2 _) _, (hB.alloc hB.size _).alloc (by have := hB.size; simp; omega) _⟩
  have q := whole_new (w2.alloc (.cells #[.slice none 0 0, .int .i64 0, .int .i64 0] 25)) (.cells #[.pointer (some ⟨s, 0, none⟩), .int .i64 8, .int .i64 0, .pointer (some ⟨w2.heap.size, 0, none⟩)] 41 (0, 0))
  rw [World.size_alloc] at q
  exact q

set_option maxHeartbeats 1000000 in
theorem Submit_not (s p : Nat) (T : ByteArray) (w : World) (h : Sy s w) (hT : T.size ≤ maxLen) (hR : readH T.data.toList = ([], (2, p))) :
    Calls Tryz.prog 10 #[.pointer (some ⟨s, 0, none⟩), .string T] w fun e w' => e = .returned (.agg #[.int .i64 2, .int .i64 (p : Int), .int .i64 0, .int .i64 0, .slice none 0 0]) ∧ Below w.heap.size w w' := by
  go_enter Tryz.func10, Tryz.ntmps10
  go_wp2_with fail
  refine (headRead_any T _ hT).mono ?_
  rintro e w1 ⟨v, xs, rfl, hown, hxs, hsr, hB⟩
  rw [hR]
  have hW := (Below.refl _ w).alloc (Nat.le_refl _) (.cells #[.int .i64 0, .int .i64 0, .int .i64 0, .int .i64 0, .slice none 0 0] 38)
  have Y := whole_new w (.cells #[.int .i64 0, .int .i64 0, .int .i64 0, .int .i64 0, .slice none 0 0] 38 (0, 0))
  have Y1 := (hB.block _ (whole_lt Y)).trans Y
  replace hW := hW.trans (hB.mono (by simp))
  have z0 := whole_frozen Y1 0; have z1 := whole_frozen Y1 1; have z2 := whole_frozen Y1 2; have z3 := whole_frozen Y1 3; have z4 := whole_frozen Y1 4
  have k0 := whole_cell Y1 0; have k1 := whole_cell Y1 1; have k2 := whole_cell Y1 2; have k3 := whole_cell Y1 3; have k4 := whole_cell Y1 4
  simp at k0 k1 k2 k3 k4
  clear hown hxs hsr hB
  go_wp2_with fail
  refine bodyPost_ret (results_cell_row rfl _ _ w.heap.size 38 #[.int .i64 2, .int .i64 (p : Int), .int .i64 0, .int .i64 0, .slice none 0 0] (0, 0) _ (by rfl) (whole_set (whole_set (whole_set (whole_set (whole_set Y1 0 _) 1 _) 2 _) 3 _) 4 _) Tryz.underlying38 (by rfl) (by kernel_rfl)) rfl ?_
  exact ⟨rfl, ((((hW.setCell (Nat.le_refl _) _).setCell (Nat.le_refl _) _).setCell (Nat.le_refl _) _).setCell (Nat.le_refl _) _).setCell (Nat.le_refl _) _⟩

end Go.Proofs.YtanknpmojblmcaaGreatDoor
