/-
  The reader's head.
-/
import Derived.Test.YtanknpmojblmcaaGreatDoorHeadW
set_option linter.unusedSimpArgs false
set_option linter.unusedVariables false
namespace Go.Proofs.YtanknpmojblmcaaGreatDoor
open Go.RowKit

/-- The world as it was ahead of the blocks from c on. -/
theorem Aside.back {b c : Nat} {w y : World} (h : Aside b w y) (hc : w.heap.size ≤ c) (hy : c < y.heap.size) :
    ∃ v : World, v.heap.size = c ∧ Aside b w v ∧ Aside b v y ∧ ∀ k, k < c → v.heap[k]? = y.heap[k]? := by
  have hs : (y.heap.extract 0 c).size = c := by simp; omega
  have hk : ∀ k, k < c → (y.heap.extract 0 c)[k]? = y.heap[k]? := by
    intro k hk
    rw [Array.getElem?_extract, if_pos (by omega)]; simp
  refine ⟨{ y with heap := y.heap.extract 0 c }, hs, ?_, ?_, hk⟩
  · exact ⟨h.os, h.tape, h.output, by show _ ≤ (y.heap.extract 0 c).size; omega, fun k hk1 hb => (hk k (by omega)).trans (h.block k hk1 hb)⟩
  · exact ⟨rfl, rfl, rfl, by show (y.heap.extract 0 c).size ≤ _; omega, fun k hk1 hb => (hk k (by rw [← hs]; exact hk1)).symm⟩

/-- A head as a value. -/
def hvV (h : HV) (q : Value) : Value := .agg (hvC h q)

set_option maxHeartbeats 2000000 in
theorem head_any {rv : Value} (b i : Nat) (f : Bool) (T : ByteArray) (w : World) (hr : Rd b rv T i f w) (hT : T.size ≤ 600) (hi : i ≤ T.size) :
    Calls Tryz.prog 79 #[.pointer (some ⟨b, 0, none⟩)] w fun e w' => ∃ rv' q', e = .returned (hvV (headH T.data.toList (i, f)).1 q') ∧ Rd b rv' T (headH T.data.toList (i, f)).2.1 (headH T.data.toList (i, f)).2.2 w' ∧ Sr b q' (headH T.data.toList (i, f)).1.want w' ∧ Aside b w w' := by
  have hlen : T.data.toList.length = T.size := by simp
  have hb := hr.lt
  have hne : w.heap.size ≠ b := by omega
  have hcb : w.heap.size + 1 ≠ b := by omega
  have h0 : w.heap.size ≤ w.heap.size + 1 := by omega
  have HH : Hid (headH T.data.toList (i, f) = optH T.data.toList (hedV T.data.toList (i, f)) (hed4 T.data.toList (i, f))) := rfl
  have hi0 : (i, f).1 ≤ T.data.toList.length := by rw [hlen]; exact hi
  have G1 := (hed1_goes T.data.toList (i, f) hi0).2
  have G2 := (hed2_goes T.data.toList (i, f) hi0).2
  have G3 := (hed3_goes T.data.toList (i, f) hi0).2
  have G4 := (hed4_goes T.data.toList (i, f) hi0).2
  rw [hlen] at G1 G2 G3 G4
  go_enter Tryz.func79, Tryz.ntmps79
  go_wp2_with fail
  have r0 := (hr.alloc (.cells #[.string ⟨#[]⟩, .int .i64 0, .int .i64 0, .bool false, .int .i64 0, .int .i64 0, .string ⟨#[]⟩, .slice none 0 0, .int .i64 0, .int .i64 0, .int .i64 0, .int .i64 0] 64)).alloc (.cells #[.string ⟨#[]⟩, .int .i64 0, .int .i64 0, .bool false, .int .i64 0, .int .i64 0, .string ⟨#[]⟩, .slice none 0 0, .int .i64 0, .int .i64 0, .int .i64 0, .int .i64 0] 64)
  have a0 : Aside b w ((w.alloc (.cells #[.string ⟨#[]⟩, .int .i64 0, .int .i64 0, .bool false, .int .i64 0, .int .i64 0, .string ⟨#[]⟩, .slice none 0 0, .int .i64 0, .int .i64 0, .int .i64 0, .int .i64 0] 64)).alloc (.cells #[.string ⟨#[]⟩, .int .i64 0, .int .i64 0, .bool false, .int .i64 0, .int .i64 0, .string ⟨#[]⟩, .slice none 0 0, .int .i64 0, .int .i64 0, .int .i64 0, .int .i64 0] 64)) := ((Aside.refl b w).alloc _).alloc _
  have R0 : Hd w.heap.size hv0 (.slice none 0 0) ((w.alloc (.cells #[.string ⟨#[]⟩, .int .i64 0, .int .i64 0, .bool false, .int .i64 0, .int .i64 0, .string ⟨#[]⟩, .slice none 0 0, .int .i64 0, .int .i64 0, .int .i64 0, .int .i64 0] 64)).alloc (.cells #[.string ⟨#[]⟩, .int .i64 0, .int .i64 0, .bool false, .int .i64 0, .int .i64 0, .string ⟨#[]⟩, .slice none 0 0, .int .i64 0, .int .i64 0, .int .i64 0, .int .i64 0] 64)) := whole_alloc (whole_new w _) _
  have C0 : Hd (w.heap.size + 1) hv0 (.slice none 0 0) ((w.alloc (.cells #[.string ⟨#[]⟩, .int .i64 0, .int .i64 0, .bool false, .int .i64 0, .int .i64 0, .string ⟨#[]⟩, .slice none 0 0, .int .i64 0, .int .i64 0, .int .i64 0, .int .i64 0] 64)).alloc (.cells #[.string ⟨#[]⟩, .int .i64 0, .int .i64 0, .bool false, .int .i64 0, .int .i64 0, .string ⟨#[]⟩, .slice none 0 0, .int .i64 0, .int .i64 0, .int .i64 0, .int .i64 0] 64)) := by
    have := whole_new (w.alloc (.cells #[.string ⟨#[]⟩, .int .i64 0, .int .i64 0, .bool false, .int .i64 0, .int .i64 0, .string ⟨#[]⟩, .slice none 0 0, .int .i64 0, .int .i64 0, .int .i64 0, .int .i64 0] 64)) (.cells #[.string ⟨#[]⟩, .int .i64 0, .int .i64 0, .bool false, .int .i64 0, .int .i64 0, .string ⟨#[]⟩, .slice none 0 0, .int .i64 0, .int .i64 0, .int .i64 0, .int .i64 0] 64)
    rw [World.size_alloc] at this; exact this
  generalize (w.alloc (.cells #[.string ⟨#[]⟩, .int .i64 0, .int .i64 0, .bool false, .int .i64 0, .int .i64 0, .string ⟨#[]⟩, .slice none 0 0, .int .i64 0, .int .i64 0, .int .i64 0, .int .i64 0] 64)).alloc (.cells #[.string ⟨#[]⟩, .int .i64 0, .int .i64 0, .bool false, .int .i64 0, .int .i64 0, .string ⟨#[]⟩, .slice none 0 0, .int .i64 0, .int .i64 0, .int .i64 0, .int .i64 0] 64) = x0 at *
  have hRc : w.heap.size + 1 ≠ w.heap.size := by omega
  generalize hcc : w.heap.size + 1 = c at *
  have HC : Hid (w.heap.size + 1 = c) := hcc
  clear hcc
  generalize hRR : w.heap.size = R at *
  have HR : Hid (w.heap.size = R) := hRR
  clear hRR
  replace h0 : w.heap.size ≤ c := by rw [HR.out]; exact h0
  have h0R : w.heap.size ≤ R := by rw [HR.out]; exact Nat.le_refl _
  refine (word_any b i f T ⟨#[35, 74, 32]⟩ _ r0 hT (by decide)).mono ?_
  rintro e x1 ⟨rfl, r1, a1⟩
  replace r1 : Rd b rv T (hed1 T.data.toList (i, f)).1 (hed1 T.data.toList (i, f)).2 x1 := r1
  have R1 := R0.kept a1 hne
  have C1 := C0.kept a1 hcb
  replace a1 := a0.trans a1
  clear r0 a0 R0 C0
  have k8 := C1.c 8; have z8 := C1.z 8
  simp [hvC] at k8
  have m1 := r1.c1
  go_wp2_with fail
  replace r1 : Rd b rv T _ _ (x1.setCell ⟨c, 8, none⟩ (.int .i64 ((hed1 T.data.toList (i, f)).1 : Int))) := whole_set_ne r1 ⟨c, 8, none⟩ hcb _
  replace a1 : Aside b w (x1.setCell ⟨c, 8, none⟩ (.int .i64 ((hed1 T.data.toList (i, f)).1 : Int))) := a1.setCell (Or.inr h0) _
  replace R1 : Hd R hv0 (.slice none 0 0) (x1.setCell ⟨c, 8, none⟩ (.int .i64 ((hed1 T.data.toList (i, f)).1 : Int))) := whole_set_ne R1 ⟨c, 8, none⟩ hRc _
  replace C1 : Hd c { hv0 with nameAt := (hed1 T.data.toList (i, f)).1 } (.slice none 0 0) (x1.setCell ⟨c, 8, none⟩ (.int .i64 ((hed1 T.data.toList (i, f)).1 : Int))) := Hd.set (q' := .slice none 0 0) (h' := { hv0 with nameAt := (hed1 T.data.toList (i, f)).1 }) C1 8 _ rfl
  clear m1
  clear k8 z8
  generalize x1.setCell ⟨c, 8, none⟩ (.int .i64 ((hed1 T.data.toList (i, f)).1 : Int)) = y1 at *
  refine (name_any b _ _ T _ r1 hT G1).mono ?_
  rintro e x2 ⟨he, r2, a2⟩
  rw [bs_extract] at he
  subst he
  replace r2 : Rd b rv T (nmS T.data.toList (hed1 T.data.toList (i, f))).1 (nmS T.data.toList (hed1 T.data.toList (i, f))).2 x2 := r2
  have R2 := R1.kept a2 hne
  have C2 := C1.kept a2 hcb
  replace a2 := a1.trans a2
  clear r1 a1 R1 C1
  have k0 := C2.c 0; have z0 := C2.z 0
  simp [hvC] at k0
  go_wp2_with fail
  replace r2 : Rd b rv T _ _ (x2.setCell ⟨c, 0, none⟩ (.string (bs (cut T.data.toList (hed1 T.data.toList (i, f)).1 (nmS T.data.toList (hed1 T.data.toList (i, f))).1)))) := whole_set_ne r2 ⟨c, 0, none⟩ hcb _
  replace a2 : Aside b w (x2.setCell ⟨c, 0, none⟩ (.string (bs (cut T.data.toList (hed1 T.data.toList (i, f)).1 (nmS T.data.toList (hed1 T.data.toList (i, f))).1)))) := a2.setCell (Or.inr h0) _
  replace R2 : Hd R hv0 (.slice none 0 0) (x2.setCell ⟨c, 0, none⟩ (.string (bs (cut T.data.toList (hed1 T.data.toList (i, f)).1 (nmS T.data.toList (hed1 T.data.toList (i, f))).1)))) := whole_set_ne R2 ⟨c, 0, none⟩ hRc _
  replace C2 : Hd c { hv0 with nameAt := (hed1 T.data.toList (i, f)).1, name := cut T.data.toList (hed1 T.data.toList (i, f)).1 (nmS T.data.toList (hed1 T.data.toList (i, f))).1 } (.slice none 0 0) (x2.setCell ⟨c, 0, none⟩ (.string (bs (cut T.data.toList (hed1 T.data.toList (i, f)).1 (nmS T.data.toList (hed1 T.data.toList (i, f))).1)))) := Hd.set (q' := .slice none 0 0) (h' := { hv0 with nameAt := (hed1 T.data.toList (i, f)).1, name := cut T.data.toList (hed1 T.data.toList (i, f)).1 (nmS T.data.toList (hed1 T.data.toList (i, f))).1 }) C2 0 _ rfl
  clear k0 z0
  generalize x2.setCell ⟨c, 0, none⟩ (.string (bs (cut T.data.toList (hed1 T.data.toList (i, f)).1 (nmS T.data.toList (hed1 T.data.toList (i, f))).1))) = y2 at *
  refine (word_any b _ _ T ⟨#[32, 110, 111, 100, 101, 115, 61]⟩ _ r2 hT (by decide)).mono ?_
  rintro e x3 ⟨rfl, r3, a3⟩
  replace r3 : Rd b rv T (hed2 T.data.toList (i, f)).1 (hed2 T.data.toList (i, f)).2 x3 := r3
  have R3 := R2.kept a3 hne
  have C3 := C2.kept a3 hcb
  replace a3 := a2.trans a3
  clear r2 a2 R2 C2
  have k9 := C3.c 9; have z9 := C3.z 9
  simp [hvC] at k9
  have m1 := r3.c1
  go_wp2_with fail
  replace r3 : Rd b rv T _ _ (x3.setCell ⟨c, 9, none⟩ (.int .i64 ((hed2 T.data.toList (i, f)).1 : Int))) := whole_set_ne r3 ⟨c, 9, none⟩ hcb _
  replace a3 : Aside b w (x3.setCell ⟨c, 9, none⟩ (.int .i64 ((hed2 T.data.toList (i, f)).1 : Int))) := a3.setCell (Or.inr h0) _
  replace R3 : Hd R hv0 (.slice none 0 0) (x3.setCell ⟨c, 9, none⟩ (.int .i64 ((hed2 T.data.toList (i, f)).1 : Int))) := whole_set_ne R3 ⟨c, 9, none⟩ hRc _
  replace C3 : Hd c { hv0 with nameAt := (hed1 T.data.toList (i, f)).1, name := cut T.data.toList (hed1 T.data.toList (i, f)).1 (nmS T.data.toList (hed1 T.data.toList (i, f))).1, nodesAt := (hed2 T.data.toList (i, f)).1 } (.slice none 0 0) (x3.setCell ⟨c, 9, none⟩ (.int .i64 ((hed2 T.data.toList (i, f)).1 : Int))) := Hd.set (q' := .slice none 0 0) (h' := { hv0 with nameAt := (hed1 T.data.toList (i, f)).1, name := cut T.data.toList (hed1 T.data.toList (i, f)).1 (nmS T.data.toList (hed1 T.data.toList (i, f))).1, nodesAt := (hed2 T.data.toList (i, f)).1 }) C3 9 _ rfl
  clear m1
  clear k9 z9
  generalize x3.setCell ⟨c, 9, none⟩ (.int .i64 ((hed2 T.data.toList (i, f)).1 : Int)) = y3 at *
  refine (rnumber_any b _ _ T _ r3 hT).mono ?_
  rintro e x4 ⟨rfl, r4, a4⟩
  have R4 := R3.kept a4 hne
  have C4 := C3.kept a4 hcb
  replace a4 := a3.trans a4
  clear r3 a3 R3 C3
  have k1 := C4.c 1; have z1 := C4.z 1
  simp [hvC] at k1
  go_wp2_with fail
  replace r4 : Rd b rv T _ _ (x4.setCell ⟨c, 1, none⟩ (.int .i64 (numV T.data.toList (hed2 T.data.toList (i, f)) : Int))) := whole_set_ne r4 ⟨c, 1, none⟩ hcb _
  replace a4 : Aside b w (x4.setCell ⟨c, 1, none⟩ (.int .i64 (numV T.data.toList (hed2 T.data.toList (i, f)) : Int))) := a4.setCell (Or.inr h0) _
  replace R4 : Hd R hv0 (.slice none 0 0) (x4.setCell ⟨c, 1, none⟩ (.int .i64 (numV T.data.toList (hed2 T.data.toList (i, f)) : Int))) := whole_set_ne R4 ⟨c, 1, none⟩ hRc _
  replace C4 : Hd c { hv0 with nameAt := (hed1 T.data.toList (i, f)).1, name := cut T.data.toList (hed1 T.data.toList (i, f)).1 (nmS T.data.toList (hed1 T.data.toList (i, f))).1, nodesAt := (hed2 T.data.toList (i, f)).1, nodes := numV T.data.toList (hed2 T.data.toList (i, f)) } (.slice none 0 0) (x4.setCell ⟨c, 1, none⟩ (.int .i64 (numV T.data.toList (hed2 T.data.toList (i, f)) : Int))) := Hd.set (q' := .slice none 0 0) (h' := { hv0 with nameAt := (hed1 T.data.toList (i, f)).1, name := cut T.data.toList (hed1 T.data.toList (i, f)).1 (nmS T.data.toList (hed1 T.data.toList (i, f))).1, nodesAt := (hed2 T.data.toList (i, f)).1, nodes := numV T.data.toList (hed2 T.data.toList (i, f)) }) C4 1 _ rfl
  clear k1 z1
  generalize x4.setCell ⟨c, 1, none⟩ (.int .i64 (numV T.data.toList (hed2 T.data.toList (i, f)) : Int)) = y4 at *
  refine (word_any b _ _ T ⟨#[32, 116, 105, 109, 101, 61]⟩ _ r4 hT (by decide)).mono ?_
  rintro e x5 ⟨rfl, r5, a5⟩
  replace r5 : Rd b rv T (hed3 T.data.toList (i, f)).1 (hed3 T.data.toList (i, f)).2 x5 := r5
  have R5 := R4.kept a5 hne
  have C5 := C4.kept a5 hcb
  replace a5 := a4.trans a5
  clear r4 a4 R4 C4
  have k10 := C5.c 10; have z10 := C5.z 10
  simp [hvC] at k10
  have m1 := r5.c1
  go_wp2_with fail
  replace r5 : Rd b rv T _ _ (x5.setCell ⟨c, 10, none⟩ (.int .i64 ((hed3 T.data.toList (i, f)).1 : Int))) := whole_set_ne r5 ⟨c, 10, none⟩ hcb _
  replace a5 : Aside b w (x5.setCell ⟨c, 10, none⟩ (.int .i64 ((hed3 T.data.toList (i, f)).1 : Int))) := a5.setCell (Or.inr h0) _
  replace R5 : Hd R hv0 (.slice none 0 0) (x5.setCell ⟨c, 10, none⟩ (.int .i64 ((hed3 T.data.toList (i, f)).1 : Int))) := whole_set_ne R5 ⟨c, 10, none⟩ hRc _
  replace C5 : Hd c { hv0 with nameAt := (hed1 T.data.toList (i, f)).1, name := cut T.data.toList (hed1 T.data.toList (i, f)).1 (nmS T.data.toList (hed1 T.data.toList (i, f))).1, nodesAt := (hed2 T.data.toList (i, f)).1, nodes := numV T.data.toList (hed2 T.data.toList (i, f)), timeAt := (hed3 T.data.toList (i, f)).1 } (.slice none 0 0) (x5.setCell ⟨c, 10, none⟩ (.int .i64 ((hed3 T.data.toList (i, f)).1 : Int))) := Hd.set (q' := .slice none 0 0) (h' := { hv0 with nameAt := (hed1 T.data.toList (i, f)).1, name := cut T.data.toList (hed1 T.data.toList (i, f)).1 (nmS T.data.toList (hed1 T.data.toList (i, f))).1, nodesAt := (hed2 T.data.toList (i, f)).1, nodes := numV T.data.toList (hed2 T.data.toList (i, f)), timeAt := (hed3 T.data.toList (i, f)).1 }) C5 10 _ rfl
  clear m1
  clear k10 z10
  generalize x5.setCell ⟨c, 10, none⟩ (.int .i64 ((hed3 T.data.toList (i, f)).1 : Int)) = y5 at *
  refine (rnumber_any b _ _ T _ r5 hT).mono ?_
  rintro e x6 ⟨rfl, r6, a6⟩
  replace r6 : Rd b rv T (hed4 T.data.toList (i, f)).1 (hed4 T.data.toList (i, f)).2 x6 := r6
  have R6 := R5.kept a6 hne
  have C6 := C5.kept a6 hcb
  replace a6 := a5.trans a6
  clear r5 a5 R5 C5
  have k2 := C6.c 2; have z2 := C6.z 2
  simp [hvC] at k2
  go_wp2_with fail
  replace r6 : Rd b rv T _ _ (x6.setCell ⟨c, 2, none⟩ (.int .i64 (numV T.data.toList (hed3 T.data.toList (i, f)) : Int))) := whole_set_ne r6 ⟨c, 2, none⟩ hcb _
  replace a6 : Aside b w (x6.setCell ⟨c, 2, none⟩ (.int .i64 (numV T.data.toList (hed3 T.data.toList (i, f)) : Int))) := a6.setCell (Or.inr h0) _
  replace R6 : Hd R hv0 (.slice none 0 0) (x6.setCell ⟨c, 2, none⟩ (.int .i64 (numV T.data.toList (hed3 T.data.toList (i, f)) : Int))) := whole_set_ne R6 ⟨c, 2, none⟩ hRc _
  replace C6 : Hd c { hv0 with nameAt := (hed1 T.data.toList (i, f)).1, name := cut T.data.toList (hed1 T.data.toList (i, f)).1 (nmS T.data.toList (hed1 T.data.toList (i, f))).1, nodesAt := (hed2 T.data.toList (i, f)).1, nodes := numV T.data.toList (hed2 T.data.toList (i, f)), timeAt := (hed3 T.data.toList (i, f)).1, time := numV T.data.toList (hed3 T.data.toList (i, f)) } (.slice none 0 0) (x6.setCell ⟨c, 2, none⟩ (.int .i64 (numV T.data.toList (hed3 T.data.toList (i, f)) : Int))) := Hd.set (q' := .slice none 0 0) (h' := { hv0 with nameAt := (hed1 T.data.toList (i, f)).1, name := cut T.data.toList (hed1 T.data.toList (i, f)).1 (nmS T.data.toList (hed1 T.data.toList (i, f))).1, nodesAt := (hed2 T.data.toList (i, f)).1, nodes := numV T.data.toList (hed2 T.data.toList (i, f)), timeAt := (hed3 T.data.toList (i, f)).1, time := numV T.data.toList (hed3 T.data.toList (i, f)) }) C6 2 _ rfl
  clear k2 z2
  generalize x6.setCell ⟨c, 2, none⟩ (.int .i64 (numV T.data.toList (hed3 T.data.toList (i, f)) : Int)) = y6 at *
  replace C6 : Hd c (hedV T.data.toList (i, f)) (.slice none 0 0) y6 := C6
  have hRb := hne
  obtain ⟨v0, vs, va, vb, vk⟩ := Aside.back (b := b) a6 h0 C6.lt
  have RV : Hd R hv0 (.slice none 0 0) v0 := (vk R (by have := HC.out; omega)).trans R6
  refine (options_any b c _ _ _ T v0 _ r6 C6 (Sr.nil _ _) hcb vb (by omega) hT G4).mono ?_
  rintro e x7 ⟨rfl, rv7, q7, r7, C7, s7, a7⟩
  have R7 := RV.kept a7 hne
  replace a7 := va.trans a7
  replace r7 : Rd b rv7 T (optH T.data.toList (hedV T.data.toList (i, f)) (hed4 T.data.toList (i, f))).2.1 (optH T.data.toList (hedV T.data.toList (i, f)) (hed4 T.data.toList (i, f))).2.2 x7 := r7
  replace C7 : Hd c (optH T.data.toList (hedV T.data.toList (i, f)) (hed4 T.data.toList (i, f))).1 q7 x7 := C7
  replace s7 : Sr b q7 (optH T.data.toList (hedV T.data.toList (i, f)) (hed4 T.data.toList (i, f))).1.want x7 := s7
  rw [← HH.out] at r7 C7 s7
  clear r6 a6 R6 C6 RV vb vk va HH G1 G2 G3 G4
  generalize hs7' : headH T.data.toList (i, f) = e7 at *
  have HS7 : Hid (headH T.data.toList (i, f) = e7) := hs7'
  clear hs7'
  obtain ⟨h7, i7, f7⟩ := e7
  simp only at r7 C7 s7
  have hqR := s7.other R7 (by decide)
  obtain ⟨pa7, pc7, rfl⟩ := s7.form
  have l0 := C7.c 0; have l1 := C7.c 1; have l2 := C7.c 2; have l3 := C7.c 3; have l4 := C7.c 4; have l5 := C7.c 5; have l6 := C7.c 6; have l7 := C7.c 7; have l8 := C7.c 8; have l9 := C7.c 9; have l10 := C7.c 10; have l11 := C7.c 11
  have k0 := R7.c 0; have k1 := R7.c 1; have k2 := R7.c 2; have k3 := R7.c 3; have k4 := R7.c 4; have k5 := R7.c 5; have k6 := R7.c 6; have k7 := R7.c 7; have k8 := R7.c 8; have k9 := R7.c 9; have k10 := R7.c 10; have k11 := R7.c 11
  have z0 := R7.z 0; have z1 := R7.z 1; have z2 := R7.z 2; have z3 := R7.z 3; have z4 := R7.z 4; have z5 := R7.z 5; have z6 := R7.z 6; have z7 := R7.z 7; have z8 := R7.z 8; have z9 := R7.z 9; have z10 := R7.z 10; have z11 := R7.z 11
  simp [hvC, hv0] at l0 l1 l2 l3 l4 l5 l6 l7 l8 l9 l10 l11 k0 k1 k2 k3 k4 k5 k6 k7 k8 k9 k10 k11
  go_wp2_with fail
  refine bodyPost_ret (v := hvV h7 (.slice pa7 h7.want.length pc7)) ?_ rfl ?_
  · simp [results, Tryz.results79, go_sem, hvV, hvC, k0, k1, k2, k3, k4, k5, k6, k7, k8, k9, k10, k11]
  · rw [HS7.out]
    refine ⟨rv7, .slice pa7 h7.want.length pc7, rfl, ?_, ?_, ?_⟩
    · iterate 12 refine whole_set_ne ?_ ⟨R, _, none⟩ hne _
      exact r7
    · iterate 12 refine Sr.setCell (p := ⟨R, _, none⟩) ?_ hqR _
      exact s7
    · iterate 12 refine Aside.setCell ?_ (Or.inr h0R) _
      exact a7

end Go.Proofs.YtanknpmojblmcaaGreatDoor
