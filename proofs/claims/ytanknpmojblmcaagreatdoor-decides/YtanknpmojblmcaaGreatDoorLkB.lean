/-
  Package link: which group a name means, whether a reference names a job.
-/
import Derived.Test.YtanknpmojblmcaaGreatDoorLkA
import Derived.Test.YtanknpmojblmcaaGreatDoorLay
import Derived.Laws.ResultCell
import Derived.Laws.BytesArg
import Derived.Laws.Rows
set_option linter.unusedSimpArgs false
set_option linter.unusedVariables false
namespace Go.Proofs.YtanknpmojblmcaaGreatDoor
open Go.RowKit

set_option maxRecDepth 100000 in
set_option maxHeartbeats 1000000 in
theorem lkText (n : Nat) (hn : n < 256) (w : World) :
    Calls Tryz.prog 86 #[.int .i64 (n : Int)] w fun e w' => e = .returned (.string (bs [UInt8.ofNat n])) ∧ Below w.heap.size w w' := by
  go_enter Tryz.func86, Tryz.ntmps86
  have hcv : (convert 144 9 (.slice (some ⟨w.heap.size, 0, none⟩) 1 1)).run Tryz.prog (w.alloc (.cells #[.int .u8 (n : Int)] 5)) = .ok (.string (bs [UInt8.ofNat n])) (w.alloc (.cells #[.int .u8 (n : Int)] 5)) := by
    have Y := whole_new w (.cells #[.int .u8 (n : Int)] 5 (0, 0))
    have q := run_convert_bytes_arg (P := Tryz.prog) (w.alloc (.cells #[.int .u8 (n : Int)] 5)) 144 5 Tryz.underlying144 Tryz.underlying5 w.heap.size 0 1 1 [(n : Int)] rfl (fun i hi => by
      obtain rfl : i = 0 := by omega
      exact whole_cell Y 0) 9 Tryz.underlying9
    rw [q]
    simp [strOfNums, bs]
  have hW : Below w.heap.size w (w.alloc (.cells #[.int .u8 (n : Int)] 5)) := (Below.refl _ w).alloc (Nat.le_refl _) _
  go_wp2_with fail
  go_ret
  exact ⟨rfl, hW⟩

theorem resultsCT {P : Program} {fn : Func} {p u : Tmp} {ty : TypeId} (h : fn.results = #[.cell p ty, .tmp u]) (tmps : Array Value) (w : World) (g : Nat) (t : TypeId) (cs : Array Value) (fr : Nat × Nat) (d : TypeDesc)
    (hp : tmps.getD p undef = .pointer (some ⟨g, 0, none⟩)) (hg : w.heap[g]? = some (.cells cs t fr))
    (hu : P.underlying ty = some d) (hd : (match d with | .struct _ | .array _ _ => true | _ => false) = true) (hi : (P.info? ty).map (·.size) = some cs.size) :
    (results fn tmps).run P w = .ok (.tuple #[.agg cs, tmps.getD u undef]) w := by
  rw [results_cell_tmp h, hp]
  simp [asAddr, Result.andThen, run_loadVar_row w g t ty cs fr d hg hu hd hi]

theorem group_set {w : World} {h : Nat} {t : TypeId} (g g' : GV) (Y : w.heap[h]? = some (.cells (gvC g) t (0, 0))) :
    (((((w.setCell ⟨h, 0, none⟩ (.string (bs g'.name))).setCell ⟨h, 1, none⟩ (.bool g'.arr)).setCell ⟨h, 2, none⟩ (.int .i64 (g'.lo : Int))).setCell ⟨h, 3, none⟩ (.int .i64 (g'.first : Int))).setCell ⟨h, 4, none⟩ (.int .i64 (g'.count : Int))).heap[h]? = some (.cells (gvC g') t (0, 0)) :=
  whole_set (whole_set (whole_set (whole_set (whole_set Y 0 _) 1 _) 2 _) 3 _) 4 _

/-- The group that a name means: the last of the own ones, else the last of those before. -/
def meantG (before own : List GV) (nm : List UInt8) : Option GV :=
  match latN own nm own.length with
  | some k => own[k]?
  | none => match latN before nm before.length with
    | some k => before[k]?
    | none => none
def noG : GV := ⟨[], false, 0, 0, 0⟩
def meantV (o : Option GV) : Value := .tuple #[.agg (gvC (o.getD noG)), .bool o.isSome]

set_option maxRecDepth 100000 in
set_option maxHeartbeats 1000000 in
theorem lkMeant (v u : Value) (before own : List GV) (nm : List UInt8) (w : World) (hB : Gs v before w) (hO : Gs u own w) (hl : before.length ≤ 1000) (hm : own.length ≤ 1000) :
    Calls Tryz.prog 82 #[v, u, .string (bs nm)] w fun e w' => e = .returned (meantV (meantG before own nm)) ∧ Below w.heap.size w w' := by
  obtain ⟨a, c, rfl⟩ := hB.form
  obtain ⟨a', c', rfl⟩ := hO.form
  go_enter Tryz.func82, Tryz.ntmps82
  go_wp2_with fail
  have Y := whole_new w (.cells (gvC noG) 107 (0, 0))
  have hw0 := (Below.refl _ w).alloc (Nat.le_refl _) (.cells #[.string ⟨#[]⟩, .bool false, .int .i64 0, .int .i64 0, .int .i64 0] 107)
  replace Y : (w.alloc (.cells #[.string ⟨#[]⟩, .bool false, .int .i64 0, .int .i64 0, .int .i64 0] 107)).heap[w.heap.size]? = _ := Y
  have hB0 := hB.below hw0
  have hO0 := hO.below hw0
  generalize w.alloc (.cells #[.string ⟨#[]⟩, .bool false, .int .i64 0, .int .i64 0, .int .i64 0] 107) = x0 at *
  obtain ⟨h, hh⟩ : ∃ h, h = w.heap.size := ⟨_, rfl⟩
  rw [← hh] at Y hw0 ⊢
  have HH : Hid (h = w.heap.size) := hh
  clear hh hB hO
  refine (lkLatest _ own nm x0 hO0 hm).mono ?_
  rintro e w1 ⟨rfl, hw1⟩
  have Y1 : w1.heap[h]? = _ := (hw1.block h (whole_lt Y)).trans Y
  have hB1 := hB0.below hw1
  have hO1 := hO0.below hw1
  replace hw1 : Below h w w1 := hw0.trans (hw1.mono (Nat.le_of_lt (whole_lt Y)))
  clear Y hB0 hO0 hw0
  cases e1 : latN own nm own.length with
  | some k =>
    obtain ⟨hk, hnm⟩ := latN_lt e1
    have HE : Hid (latN own nm own.length = some k) := e1
    rcases hO1 with ⟨_, rfl⟩ | ⟨g, cap, hv, hc, hg, hcell⟩
    · simp at hk
    cases hv
    have l0 := hcell k hk 0 (by omega); have l1 := hcell k hk 1 (by omega); have l2 := hcell k hk 2 (by omega); have l3 := hcell k hk 3 (by omega); have l4 := hcell k hk 4 (by omega)
    simp [gvC] at l0 l1 l2 l3 l4
    have hkI : (0 : Int) ≤ (k : Int) := by omega
    have hkL : (k : Int) < (own.length : Int) := by omega
    have HM : Hid (own[k]? = some own[k]) := by show _ = _; simp [hk]
    clear hcell hnm e1
    generalize own[k] = gk at *
    simp only [latI]
    have c0 := whole_cell Y1 0; have c1 := whole_cell Y1 1; have c2 := whole_cell Y1 2; have c3 := whole_cell Y1 3; have c4 := whole_cell Y1 4
    simp [gvC] at c0 c1 c2 c3 c4
    have z0 := whole_frozen Y1 0; have z1 := whole_frozen Y1 1; have z2 := whole_frozen Y1 2; have z3 := whole_frozen Y1 3; have z4 := whole_frozen Y1 4
    go_wp2_with fail
    refine bodyPost_ret (resultsCT rfl _ _ h _ _ _ _ (by rfl) (group_set _ gk Y1) Tryz.underlying107 (by rfl) (by kernel_rfl)) rfl ?_
    refine ⟨?_, ?_⟩
    · unfold meantG; rw [HE.out]; simp only []; rw [HM.out]; rfl
    · rw [← HH.out]; exact ((((hw1.setCell (Nat.le_refl _) _).setCell (Nat.le_refl _) _).setCell (Nat.le_refl _) _).setCell (Nat.le_refl _) _).setCell (Nat.le_refl _) _
  | none =>
    have HE : Hid (latN own nm own.length = none) := e1
    clear e1
    simp only [latI]
    go_wp2_with fail
    refine (lkLatest _ before nm w1 hB1 hl).mono ?_
    rintro e w2 ⟨rfl, hw2⟩
    have Y2 : w2.heap[h]? = _ := (hw2.block h (whole_lt Y1)).trans Y1
    have hB2 := hB1.below hw2
    replace hw2 : Below h w w2 := hw1.trans (hw2.mono (Nat.le_of_lt (whole_lt Y1)))
    clear Y1 hB1 hO1 hw1
    have c0 := whole_cell Y2 0; have c1 := whole_cell Y2 1; have c2 := whole_cell Y2 2; have c3 := whole_cell Y2 3; have c4 := whole_cell Y2 4
    simp [gvC] at c0 c1 c2 c3 c4
    have z0 := whole_frozen Y2 0; have z1 := whole_frozen Y2 1; have z2 := whole_frozen Y2 2; have z3 := whole_frozen Y2 3; have z4 := whole_frozen Y2 4
    cases e1 : latN before nm before.length with
    | some k =>
      obtain ⟨hk, hnm⟩ := latN_lt e1
      have HE2 : Hid (latN before nm before.length = some k) := e1
      rcases hB2 with ⟨_, rfl⟩ | ⟨g, cap, hv, hc, hg, hcell⟩
      · simp at hk
      cases hv
      have l0 := hcell k hk 0 (by omega); have l1 := hcell k hk 1 (by omega); have l2 := hcell k hk 2 (by omega); have l3 := hcell k hk 3 (by omega); have l4 := hcell k hk 4 (by omega)
      simp [gvC] at l0 l1 l2 l3 l4
      have hkI : (0 : Int) ≤ (k : Int) := by omega
      have hkL : (k : Int) < (before.length : Int) := by omega
      have HM : Hid (before[k]? = some before[k]) := by show _ = _; simp [hk]
      clear hcell hnm e1
      generalize before[k] = gk at *
      simp only [latI]
      go_wp2_with fail
      refine bodyPost_ret (resultsCT rfl _ _ h _ _ _ _ (by rfl) (group_set _ gk Y2) Tryz.underlying107 (by rfl) (by kernel_rfl)) rfl ?_
      refine ⟨?_, ?_⟩
      · unfold meantG; rw [HE.out]; simp only []; rw [HE2.out]; simp only []; rw [HM.out]; rfl
      · rw [← HH.out]; exact ((((hw2.setCell (Nat.le_refl _) _).setCell (Nat.le_refl _) _).setCell (Nat.le_refl _) _).setCell (Nat.le_refl _) _).setCell (Nat.le_refl _) _
    | none =>
      have HE2 : Hid (latN before nm before.length = none) := e1
      clear e1
      simp only [latI]
      go_wp2_with fail
      refine bodyPost_ret (resultsCT rfl _ _ h _ _ _ _ (by rfl) (group_set _ noG Y2) Tryz.underlying107 (by rfl) (by kernel_rfl)) rfl ?_
      refine ⟨?_, ?_⟩
      · unfold meantG; rw [HE.out]; simp only []; rw [HE2.out]; rfl
      · rw [← HH.out]; first | exact hw2 | exact ((((hw2.setCell (Nat.le_refl _) _).setCell (Nat.le_refl _) _).setCell (Nat.le_refl _) _).setCell (Nat.le_refl _) _).setCell (Nat.le_refl _) _

end Go.Proofs.YtanknpmojblmcaaGreatDoor
