/-
  What is told of a new system.
-/
import Derived.Test.YtanknpmojblmcaaGreatDoorKCutB
set_option linter.unusedSimpArgs false
set_option linter.unusedVariables false
namespace Go.Proofs.YtanknpmojblmcaaGreatDoor
open Go.RowKit

set_option maxRecDepth 100000 in
set_option maxHeartbeats 4000000 in
theorem all_new (b s k : Nat) (w : World) (hW : Wo b s k w) (hS : Sy s w) (hK : Bk0 k w) :
    Calls Tryz.prog 11 #[.pointer (some ⟨b, 0, none⟩)] w fun e w' => e = .returned (.tuple #[.slice none 0 0, .bool true]) ∧ Below w.heap.size w w' := by
  have c0 := hW.c 0; have c2 := hW.c 2; have c3 := hW.c 3; have k2 := hK.c 2
  simp at c0 c2 c3 k2
  go_enter Tryz.func11, Tryz.ntmps11
  go_wp2_with fail
  go_loopg [4, 5] 1 (fun g u x wr => g = 1 ∧ u = .slice none 0 0 ∧ x = .int .i64 0 ∧ wr = w)
  case atStart => exact ⟨rfl, rfl, rfl, rfl⟩
  case round =>
    obtain ⟨rfl, rfl, rfl, rfl⟩ := hrel
    go_wp2_with fail
    have hb := whole_lt hW; have hk := whole_lt hK; have hs := whole_lt hS
    have Y := whole_new wr (.cells #[.int .i64 0, .int .i64 0, .int .i64 0, .int .i64 0, .int .i64 0] 82 (0, 0))
    have hW0 := ((Below.refl _ wr).alloc (Nat.le_refl _) (.cells #[.int .i64 0, .int .i64 0, .int .i64 0, .int .i64 0, .int .i64 0] 82)).drew
    have hSd : Sy s (wr.alloc (.cells #[.int .i64 0, .int .i64 0, .int .i64 0, .int .i64 0, .int .i64 0] 82)).drew := whole_alloc hS _
    have hSe : Sy s wr.drew := hS
    go_region_with (first
      | (go_at_call 27; refine (Status_zero s wr.drew hSe).mono ?_; rintro e w1 ⟨rfl, hB1⟩; have HB : Hid (Below wr.heap.size wr (w1.alloc (.cells #[.int .i64 0, .int .i64 0, .int .i64 0, .int .i64 0, .int .i64 0] 82))) := ((Below.refl _ wr).drew.trans hB1).alloc hB1.size _; have Y1 := whole_new w1 (.cells #[.int .i64 0, .int .i64 0, .int .i64 0, .int .i64 0, .int .i64 0] 82 (0, 0)); have z0 := whole_frozen Y1 0; have z1 := whole_frozen Y1 1; have z2 := whole_frozen Y1 2; have z3 := whole_frozen Y1 3; have z4 := whole_frozen Y1 4)
      | (go_at_call 27; refine (Status_zero s (wr.alloc (.cells #[.int .i64 0, .int .i64 0, .int .i64 0, .int .i64 0, .int .i64 0] 82)).drew hSd).mono ?_; rintro e w1 ⟨rfl, hB1⟩; have Y1 := (hB1.block _ (whole_lt Y)).trans Y; have z0 := whole_frozen Y1 0; have z1 := whole_frozen Y1 1; have z2 := whole_frozen Y1 2; have z3 := whole_frozen Y1 3; have z4 := whole_frozen Y1 4; have j0 := whole_cell Y1 0; have j1 := whole_cell Y1 1; have j2 := whole_cell Y1 2; have j3 := whole_cell Y1 3; have j4 := whole_cell Y1 4; simp at j0 j1 j2 j3 j4))
    all_goals
      first
        | (have HB2 : Hid (Below wr.heap.size wr (w1.alloc (.cells #[.int .i64 0, .int .i64 0, .int .i64 0, .int .i64 0, .int .i64 0] 82))) := HB
           clear HB z0 z1 z2 z3 z4 Y1 hB1 hW0 Y hSd hSe
           generalize w1.alloc (.cells #[.int .i64 0, .int .i64 0, .int .i64 0, .int .i64 0, .int .i64 0] 82) = w2 at *)
        | (have HB2 : Hid (Below wr.heap.size wr (((((w1.setCell ⟨wr.heap.size, 0, none⟩ (.int .i64 0)).setCell ⟨wr.heap.size, 1, none⟩ (.int .i64 0)).setCell ⟨wr.heap.size, 2, none⟩ (.int .i64 0)).setCell ⟨wr.heap.size, 3, none⟩ (.int .i64 0)).setCell ⟨wr.heap.size, 4, none⟩ (.int .i64 0))) := (((((hW0.trans (hB1.mono hW0.size)).setCell (Nat.le_refl _) _).setCell (Nat.le_refl _) _).setCell (Nat.le_refl _) _).setCell (Nat.le_refl _) _).setCell (Nat.le_refl _) _
           clear z0 z1 z2 z3 z4 j0 j1 j2 j3 j4 Y1 hB1 hW0 Y hSd hSe
           generalize ((((w1.setCell ⟨wr.heap.size, 0, none⟩ (.int .i64 0)).setCell ⟨wr.heap.size, 1, none⟩ (.int .i64 0)).setCell ⟨wr.heap.size, 2, none⟩ (.int .i64 0)).setCell ⟨wr.heap.size, 3, none⟩ (.int .i64 0)).setCell ⟨wr.heap.size, 4, none⟩ (.int .i64 0) = w2 at *)
      have hS1 : Sy s w2 := hS.below HB2.out hs
      have c0' := (HB2.out.cell (p := ⟨b, 0, none⟩) hb).trans c0
      have c2' := (HB2.out.cell (p := ⟨b, 2, none⟩) hb).trans c2
      have c3' := (HB2.out.cell (p := ⟨b, 3, none⟩) hb).trans c3
      have k2' := (HB2.out.cell (p := ⟨k, 2, none⟩) hk).trans k2
      clear c0 c2 c3 k2
      go_wp2_with fail
      refine (Clock_new s _ hS1).mono ?_
      rintro e w3 ⟨rfl, hB3⟩
      have HB3 : Hid (Below wr.heap.size wr w3) := HB2.out.trans (hB3.mono HB2.out.size)
      have c2'' := (hB3.cell (p := ⟨b, 2, none⟩) (Nat.lt_of_lt_of_le hb HB2.out.size)).trans c2'
      have c3'' := (hB3.cell (p := ⟨b, 3, none⟩) (Nat.lt_of_lt_of_le hb HB2.out.size)).trans c3'
      have k2'' := (hB3.cell (p := ⟨k, 2, none⟩) (Nat.lt_of_lt_of_le hk HB2.out.size)).trans k2'
      clear c0' c2' c3' k2' hB3 hS1
      go_wp2_with fail
      go_region
      go_wp2_with fail
      go_ret2
      exact ⟨rfl, HB3.out.drew⟩

end Go.Proofs.YtanknpmojblmcaaGreatDoor
