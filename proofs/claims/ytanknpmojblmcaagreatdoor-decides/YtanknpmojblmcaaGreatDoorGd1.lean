/-
  WmA WmB WmC WmD, put together.
-/
import Derived.Test.YtanknpmojblmcaaGreatDoorGb2
import Derived.Test.YtanknpmojblmcaaGreatDoorGc1
import Derived.Test.YtanknpmojblmcaaGreatDoorGa4
import Derived.Deep.DeepCutAuto
/-
  A world's walk: the head of a job.
-/
set_option linter.unusedSimpArgs false
set_option linter.unusedVariables false
namespace Go.Proofs.YtanknpmojblmcaaGreatDoor
open Go.RowKit

def jobI (ms : List MB) (id : Nat) : Nat → Option Nat
  | 0 => none
  | n + 1 => if (ms.getD n mb0).first ≤ id then some n else jobI ms id n
def mvZ : MV := ⟨0, jv0, 0, 0, [], none, 0, 0⟩
def mvI (ms : List MB) (sl : Nat → Sl) : Option Nat → MV
  | none => mvZ
  | some k => toMV (ms.getD k mb0) (sl k)
theorem jobI_job (ms : List MB) (sl : Nat → Sl) (id : Nat) : ∀ n, (mvI ms sl (jobI ms id n)).job = (jobB ms id n).job := by
  intro n
  induction n with
  | zero => rfl
  | succ n ih =>
    unfold jobI jobB
    split
    · rfl
    · exact ih
theorem jobI_lt {ms : List MB} {id : Nat} : ∀ {n k : Nat}, jobI ms id n = some k → k < n := by
  intro n
  induction n with
  | zero => intro k h; simp [jobI] at h
  | succ n ih =>
    intro k h
    unfold jobI at h
    split at h
    · have := Option.some.inj h; omega
    · have := ih h; omega

/-- A struct's cells, stored one by one. -/
def stores (w : World) (b : Nat) : Nat → List Value → World
  | _, [] => w
  | i, v :: r => stores (w.setCell ⟨b, i, none⟩ v) b (i + 1) r
def setN (cs : Array Value) : Nat → List Value → Array Value
  | _, [] => cs
  | i, v :: r => setN (cs.setIfInBounds i v) (i + 1) r
theorem stores_other {b k : Nat} (hk : k ≠ b) : ∀ (vs : List Value) (i : Nat) (w : World), (stores w b i vs).heap[k]? = w.heap[k]? := by
  intro vs
  induction vs with
  | nil => intro i w; rfl
  | cons v r ih => intro i w; exact (ih (i + 1) _).trans (Below.heap_setCell _ _ _ _ hk)
theorem stores_below {n b : Nat} (hn : n ≤ b) : ∀ (vs : List Value) (i : Nat) {x w : World}, Below n x w → Below n x (stores w b i vs) := by
  intro vs
  induction vs with
  | nil => intro i x w h; exact h
  | cons v r ih => intro i x w h; exact ih (i + 1) (h.setCell hn v)
theorem stores_whole {b : Nat} {t : TypeId} : ∀ (vs : List Value) (i : Nat) {w : World} {cs : Array Value}, w.heap[b]? = some (.cells cs t (0, 0)) → (stores w b i vs).heap[b]? = some (.cells (setN cs i vs) t (0, 0)) := by
  intro vs
  induction vs with
  | nil => intro i w cs h; exact h
  | cons v r ih => intro i w cs h; exact ih (i + 1) (whole_set h i v)
theorem setN_mv (a y : MV) : setN (mvC a) 0 (mvC y).toList = mvC y := by
  simp [mvC, setN]
theorem setN_z (c : Array Value) (hc : c.size = 12) (y : MV) : setN c 0 (mvC y).toList = mvC y := by
  obtain ⟨l⟩ := c
  match l, hc with
  | [a0, a1, a2, a3, a4, a5, a6, a7, a8, a9, a10, a11], _ => simp [mvC, setN]

set_option maxRecDepth 100000 in
set_option maxHeartbeats 4000000 in
theorem wJob (b : Nat) (v : Value) (bn bj : Nat) (ms : List MB) (sl : Nat → Sl) (id : Nat) (w : World) (hB : Bk b v bn bj w) (hM : Ms v (vsB ms sl) w) (hl : ms.length ≤ 100) :
    Calls Tryz.prog 28 #[.pointer (some ⟨b, 0, none⟩), .int .i64 (id : Int)] w fun e w' => e = .returned (.agg (mvC (mvI ms sl (jobI ms id ms.length)))) ∧ Below w.heap.size w w' := by
  have hvl := vsB_len ms sl
  have hb0 := hB.c 0
  simp at hb0
  have hbl := hB.lt
  have HM : Hid (Ms v (vsB ms sl) w) := hM
  clear hM
  go_enter Tryz.func28, Tryz.ntmps28
  go_wp2_with fail
  have Z0 := whole_alloc (whole_new w (.cells #[.int .i64 0, .string ⟨#[]⟩, .int .i64 0, .int .i64 0, .bool false, .int .i64 0, .int .i64 0, .string ⟨#[]⟩, .int .i64 0, .int .i64 0, .string ⟨#[]⟩, .slice none 0 0] 87 (0, 0))) (.cells #[.int .i64 0, .string ⟨#[]⟩, .int .i64 0, .int .i64 0, .bool false, .int .i64 0, .int .i64 0, .string ⟨#[]⟩, .int .i64 0, .int .i64 0, .string ⟨#[]⟩, .slice none 0 0] 87)
  have Z1 := whole_new (w.alloc (.cells #[.int .i64 0, .string ⟨#[]⟩, .int .i64 0, .int .i64 0, .bool false, .int .i64 0, .int .i64 0, .string ⟨#[]⟩, .int .i64 0, .int .i64 0, .string ⟨#[]⟩, .slice none 0 0] 87)) (.cells #[.int .i64 0, .string ⟨#[]⟩, .int .i64 0, .int .i64 0, .bool false, .int .i64 0, .int .i64 0, .string ⟨#[]⟩, .int .i64 0, .int .i64 0, .string ⟨#[]⟩, .slice none 0 0] 87 (0, 0))
  rw [World.size_alloc] at Z1
  have HB0 : Below w.heap.size w ((w.alloc (.cells #[.int .i64 0, .string ⟨#[]⟩, .int .i64 0, .int .i64 0, .bool false, .int .i64 0, .int .i64 0, .string ⟨#[]⟩, .int .i64 0, .int .i64 0, .string ⟨#[]⟩, .slice none 0 0] 87)).alloc (.cells #[.int .i64 0, .string ⟨#[]⟩, .int .i64 0, .int .i64 0, .bool false, .int .i64 0, .int .i64 0, .string ⟨#[]⟩, .int .i64 0, .int .i64 0, .string ⟨#[]⟩, .slice none 0 0] 87)) := ((Below.refl _ w).alloc (Nat.le_refl _) _).alloc (by simp) _
  generalize (w.alloc (.cells #[.int .i64 0, .string ⟨#[]⟩, .int .i64 0, .int .i64 0, .bool false, .int .i64 0, .int .i64 0, .string ⟨#[]⟩, .int .i64 0, .int .i64 0, .string ⟨#[]⟩, .slice none 0 0] 87)).alloc (.cells #[.int .i64 0, .string ⟨#[]⟩, .int .i64 0, .int .i64 0, .bool false, .int .i64 0, .int .i64 0, .string ⟨#[]⟩, .int .i64 0, .int .i64 0, .string ⟨#[]⟩, .slice none 0 0] 87) = x0 at *
  go_loopg [6] (ms.length + 1) (fun r x wr => ∃ (k : Nat), k ≤ ms.length ∧ r = ms.length - k + 1 ∧ x = .int .i64 (k : Int) ∧ Below w.heap.size w wr ∧ wr.heap[w.heap.size]? = x0.heap[w.heap.size]? ∧ wr.heap[w.heap.size + 1]? = some (.cells (mvC (mvI ms sl (jobI ms id k))) 87 (0, 0)))
  case atStart => exact ⟨0, Nat.zero_le _, rfl, rfl, HB0, rfl, Z1⟩
  case round =>
    obtain ⟨k, hk, rfl, rfl, HB, hR, hH⟩ := hrel
    have hb1 : wr.cell? ⟨b, 0, none⟩ = some v := (HB.cell hbl).trans hb0
    by_cases hlt : k < ms.length
    · have hlt' : (k : Int) < (ms.length : Int) := by omega
      rcases HM.out.b with ⟨_, hnil⟩ | ⟨g, cap, rfl, hc, hg, hcell⟩
      · rw [hnil] at hlt; simp at hlt
      · have hcl : ∀ j, j < 12 → wr.cell? ⟨g, k * 12 + j, none⟩ = (mvC (toMV (ms.getD k mb0) (sl k)))[j]? := fun j hj => (HB.cell (p := ⟨g, k * 12 + j, none⟩) hg).trans (hcell k hlt j hj)
        have l0 := hcl 0 (by omega); have l1 := hcl 1 (by omega); have l2 := hcl 2 (by omega); have l3 := hcl 3 (by omega); have l4 := hcl 4 (by omega); have l5 := hcl 5 (by omega); have l6 := hcl 6 (by omega); have l7 := hcl 7 (by omega); have l8 := hcl 8 (by omega); have l9 := hcl 9 (by omega); have l10 := hcl 10 (by omega); have l11 := hcl 11 (by omega)
        have HC : Hid _ := hcell
        have HJ : Hid (jobI ms id (k + 1) = if (toMV (ms.getD k mb0) (sl k)).first ≤ id then some k else jobI ms id k) := rfl
        have HMI : Hid (mvI ms sl (some k) = toMV (ms.getD k mb0) (sl k)) := rfl
        clear hcl hcell
        generalize toMV (ms.getD k mb0) (sl k) = y at *
        simp [mvC] at l0 l1 l2 l3 l4 l5 l6 l7 l8 l9 l10 l11
        have d0 := whole_cell hH 0; have d1 := whole_cell hH 1; have d2 := whole_cell hH 2; have d3 := whole_cell hH 3; have d4 := whole_cell hH 4; have d5 := whole_cell hH 5; have d6 := whole_cell hH 6; have d7 := whole_cell hH 7; have d8 := whole_cell hH 8; have d9 := whole_cell hH 9; have d10 := whole_cell hH 10; have d11 := whole_cell hH 11
        have z0 := whole_frozen hH 0; have z1 := whole_frozen hH 1; have z2 := whole_frozen hH 2; have z3 := whole_frozen hH 3; have z4 := whole_frozen hH 4; have z5 := whole_frozen hH 5; have z6 := whole_frozen hH 6; have z7 := whole_frozen hH 7; have z8 := whole_frozen hH 8; have z9 := whole_frozen hH 9; have z10 := whole_frozen hH 10; have z11 := whole_frozen hH 11
        simp [mvC] at d0 d1 d2 d3 d4 d5 d6 d7 d8 d9 d10 d11
        have hgs : g ≠ w.heap.size + 1 := by have := hg; omega
        by_cases hf : (y.first : Int) ≤ (id : Int)
        · have HJ2 : Hid (mvI ms sl (jobI ms id (k + 1)) = y) := by show _ = _; rw [HJ.out, if_pos (by omega), HMI.out]
          have S1 := stores_below (n := w.heap.size) (b := w.heap.size + 1) (by omega) (mvC y).toList 0 HB
          have S2 := (stores_other (k := w.heap.size) (b := w.heap.size + 1) (by omega) (mvC y).toList 0 wr).trans hR
          have S3 := stores_whole (mvC y).toList 0 hH
          rw [setN_mv] at S3
          go_wp2_with fail
          change Below w.heap.size w ((((((((((((wr.setCell ⟨w.heap.size + 1, 0, none⟩ (.int .i64 (y.batch : Int))).setCell ⟨w.heap.size + 1, 1, none⟩ (.string (bs y.job.name))).setCell ⟨w.heap.size + 1, 2, none⟩ (.int .i64 (y.job.nodes : Int))).setCell ⟨w.heap.size + 1, 3, none⟩ (.int .i64 (y.job.time : Int))).setCell ⟨w.heap.size + 1, 4, none⟩ (.bool y.job.arr)).setCell ⟨w.heap.size + 1, 5, none⟩ (.int .i64 (y.job.lo : Int))).setCell ⟨w.heap.size + 1, 6, none⟩ (.int .i64 (y.job.hi : Int))).setCell ⟨w.heap.size + 1, 7, none⟩ (.string (bs y.job.after))).setCell ⟨w.heap.size + 1, 8, none⟩ (.int .i64 (y.first : Int))).setCell ⟨w.heap.size + 1, 9, none⟩ (.int .i64 (y.count : Int))).setCell ⟨w.heap.size + 1, 10, none⟩ (.string (bs y.want))).setCell ⟨w.heap.size + 1, 11, none⟩ (.slice y.pa y.pn y.pc)) at S1
          change ((((((((((((wr.setCell ⟨w.heap.size + 1, 0, none⟩ (.int .i64 (y.batch : Int))).setCell ⟨w.heap.size + 1, 1, none⟩ (.string (bs y.job.name))).setCell ⟨w.heap.size + 1, 2, none⟩ (.int .i64 (y.job.nodes : Int))).setCell ⟨w.heap.size + 1, 3, none⟩ (.int .i64 (y.job.time : Int))).setCell ⟨w.heap.size + 1, 4, none⟩ (.bool y.job.arr)).setCell ⟨w.heap.size + 1, 5, none⟩ (.int .i64 (y.job.lo : Int))).setCell ⟨w.heap.size + 1, 6, none⟩ (.int .i64 (y.job.hi : Int))).setCell ⟨w.heap.size + 1, 7, none⟩ (.string (bs y.job.after))).setCell ⟨w.heap.size + 1, 8, none⟩ (.int .i64 (y.first : Int))).setCell ⟨w.heap.size + 1, 9, none⟩ (.int .i64 (y.count : Int))).setCell ⟨w.heap.size + 1, 10, none⟩ (.string (bs y.want))).setCell ⟨w.heap.size + 1, 11, none⟩ (.slice y.pa y.pn y.pc)).heap[w.heap.size]? = _ at S2
          change ((((((((((((wr.setCell ⟨w.heap.size + 1, 0, none⟩ (.int .i64 (y.batch : Int))).setCell ⟨w.heap.size + 1, 1, none⟩ (.string (bs y.job.name))).setCell ⟨w.heap.size + 1, 2, none⟩ (.int .i64 (y.job.nodes : Int))).setCell ⟨w.heap.size + 1, 3, none⟩ (.int .i64 (y.job.time : Int))).setCell ⟨w.heap.size + 1, 4, none⟩ (.bool y.job.arr)).setCell ⟨w.heap.size + 1, 5, none⟩ (.int .i64 (y.job.lo : Int))).setCell ⟨w.heap.size + 1, 6, none⟩ (.int .i64 (y.job.hi : Int))).setCell ⟨w.heap.size + 1, 7, none⟩ (.string (bs y.job.after))).setCell ⟨w.heap.size + 1, 8, none⟩ (.int .i64 (y.first : Int))).setCell ⟨w.heap.size + 1, 9, none⟩ (.int .i64 (y.count : Int))).setCell ⟨w.heap.size + 1, 10, none⟩ (.string (bs y.want))).setCell ⟨w.heap.size + 1, 11, none⟩ (.slice y.pa y.pn y.pc)).heap[w.heap.size + 1]? = _ at S3
          generalize ((((((((((((wr.setCell ⟨w.heap.size + 1, 0, none⟩ (.int .i64 (y.batch : Int))).setCell ⟨w.heap.size + 1, 1, none⟩ (.string (bs y.job.name))).setCell ⟨w.heap.size + 1, 2, none⟩ (.int .i64 (y.job.nodes : Int))).setCell ⟨w.heap.size + 1, 3, none⟩ (.int .i64 (y.job.time : Int))).setCell ⟨w.heap.size + 1, 4, none⟩ (.bool y.job.arr)).setCell ⟨w.heap.size + 1, 5, none⟩ (.int .i64 (y.job.lo : Int))).setCell ⟨w.heap.size + 1, 6, none⟩ (.int .i64 (y.job.hi : Int))).setCell ⟨w.heap.size + 1, 7, none⟩ (.string (bs y.job.after))).setCell ⟨w.heap.size + 1, 8, none⟩ (.int .i64 (y.first : Int))).setCell ⟨w.heap.size + 1, 9, none⟩ (.int .i64 (y.count : Int))).setCell ⟨w.heap.size + 1, 10, none⟩ (.string (bs y.want))).setCell ⟨w.heap.size + 1, 11, none⟩ (.slice y.pa y.pn y.pc)) = wn at *
          go_roundg (ms.length - (k + 1) + 1)
          case measure => omega
          case rel => exact ⟨k + 1, by omega, rfl, by go_num, S1, S2, by rw [HJ2.out]; exact S3⟩
        · have HJ2 : Hid (jobI ms id (k + 1) = jobI ms id k) := by show _ = _; rw [HJ.out, if_neg (by omega)]
          have hf' : decide ((y.first : Int) ≤ (id : Int)) = false := by simpa using hf
          go_wp2_with fail
          go_roundg (ms.length - (k + 1) + 1)
          case measure => omega
          case rel => exact ⟨k + 1, by omega, rfl, by go_num, HB, hR, by rw [HJ2.out]; exact hH⟩
    · have hlt' : decide ((k : Int) < (ms.length : Int)) = false := by simp; omega
      have hke : k = ms.length := by omega
      have hlen : (∃ a d, v = .slice a ms.length d) := by
        rcases HM.out.b with ⟨rfl, hnil⟩ | ⟨g, cap, rfl, _⟩
        · rw [hnil]; exact ⟨_, _, rfl⟩
        · exact ⟨_, _, rfl⟩
      obtain ⟨a1, d1, rfl⟩ := hlen
      have HE : Hid (mvI ms sl (jobI ms id ms.length) = mvI ms sl (jobI ms id k)) := by show _ = _; rw [hke]
      generalize mvI ms sl (jobI ms id k) = y at *
      have d0 := whole_cell hH 0; have d1 := whole_cell hH 1; have d2 := whole_cell hH 2; have d3 := whole_cell hH 3; have d4 := whole_cell hH 4; have d5 := whole_cell hH 5; have d6 := whole_cell hH 6; have d7 := whole_cell hH 7; have d8 := whole_cell hH 8; have d9 := whole_cell hH 9; have d10 := whole_cell hH 10; have d11 := whole_cell hH 11
      simp [mvC] at d0 d1 d2 d3 d4 d5 d6 d7 d8 d9 d10 d11
      replace hR := hR.trans Z0
      have z0 := whole_frozen hR 0; have z1 := whole_frozen hR 1; have z2 := whole_frozen hR 2; have z3 := whole_frozen hR 3; have z4 := whole_frozen hR 4; have z5 := whole_frozen hR 5; have z6 := whole_frozen hR 6; have z7 := whole_frozen hR 7; have z8 := whole_frozen hR 8; have z9 := whole_frozen hR 9; have z10 := whole_frozen hR 10; have z11 := whole_frozen hR 11
      have c0 := whole_cell hR 0; have c1 := whole_cell hR 1; have c2 := whole_cell hR 2; have c3 := whole_cell hR 3; have c4 := whole_cell hR 4; have c5 := whole_cell hR 5; have c6 := whole_cell hR 6; have c7 := whole_cell hR 7; have c8 := whole_cell hR 8; have c9 := whole_cell hR 9; have c10 := whole_cell hR 10; have c11 := whole_cell hR 11
      simp at c0 c1 c2 c3 c4 c5 c6 c7 c8 c9 c10 c11
      have S1 := stores_below (n := w.heap.size) (b := w.heap.size) (Nat.le_refl _) (mvC y).toList 0 HB
      have S3 := stores_whole (mvC y).toList 0 hR
      rw [setN_z _ rfl] at S3
      go_wp2_with fail
      change Below w.heap.size w ((((((((((((wr.setCell ⟨w.heap.size, 0, none⟩ (.int .i64 (y.batch : Int))).setCell ⟨w.heap.size, 1, none⟩ (.string (bs y.job.name))).setCell ⟨w.heap.size, 2, none⟩ (.int .i64 (y.job.nodes : Int))).setCell ⟨w.heap.size, 3, none⟩ (.int .i64 (y.job.time : Int))).setCell ⟨w.heap.size, 4, none⟩ (.bool y.job.arr)).setCell ⟨w.heap.size, 5, none⟩ (.int .i64 (y.job.lo : Int))).setCell ⟨w.heap.size, 6, none⟩ (.int .i64 (y.job.hi : Int))).setCell ⟨w.heap.size, 7, none⟩ (.string (bs y.job.after))).setCell ⟨w.heap.size, 8, none⟩ (.int .i64 (y.first : Int))).setCell ⟨w.heap.size, 9, none⟩ (.int .i64 (y.count : Int))).setCell ⟨w.heap.size, 10, none⟩ (.string (bs y.want))).setCell ⟨w.heap.size, 11, none⟩ (.slice y.pa y.pn y.pc)) at S1
      change ((((((((((((wr.setCell ⟨w.heap.size, 0, none⟩ (.int .i64 (y.batch : Int))).setCell ⟨w.heap.size, 1, none⟩ (.string (bs y.job.name))).setCell ⟨w.heap.size, 2, none⟩ (.int .i64 (y.job.nodes : Int))).setCell ⟨w.heap.size, 3, none⟩ (.int .i64 (y.job.time : Int))).setCell ⟨w.heap.size, 4, none⟩ (.bool y.job.arr)).setCell ⟨w.heap.size, 5, none⟩ (.int .i64 (y.job.lo : Int))).setCell ⟨w.heap.size, 6, none⟩ (.int .i64 (y.job.hi : Int))).setCell ⟨w.heap.size, 7, none⟩ (.string (bs y.job.after))).setCell ⟨w.heap.size, 8, none⟩ (.int .i64 (y.first : Int))).setCell ⟨w.heap.size, 9, none⟩ (.int .i64 (y.count : Int))).setCell ⟨w.heap.size, 10, none⟩ (.string (bs y.want))).setCell ⟨w.heap.size, 11, none⟩ (.slice y.pa y.pn y.pc)).heap[w.heap.size]? = _ at S3
      generalize ((((((((((((wr.setCell ⟨w.heap.size, 0, none⟩ (.int .i64 (y.batch : Int))).setCell ⟨w.heap.size, 1, none⟩ (.string (bs y.job.name))).setCell ⟨w.heap.size, 2, none⟩ (.int .i64 (y.job.nodes : Int))).setCell ⟨w.heap.size, 3, none⟩ (.int .i64 (y.job.time : Int))).setCell ⟨w.heap.size, 4, none⟩ (.bool y.job.arr)).setCell ⟨w.heap.size, 5, none⟩ (.int .i64 (y.job.lo : Int))).setCell ⟨w.heap.size, 6, none⟩ (.int .i64 (y.job.hi : Int))).setCell ⟨w.heap.size, 7, none⟩ (.string (bs y.job.after))).setCell ⟨w.heap.size, 8, none⟩ (.int .i64 (y.first : Int))).setCell ⟨w.heap.size, 9, none⟩ (.int .i64 (y.count : Int))).setCell ⟨w.heap.size, 10, none⟩ (.string (bs y.want))).setCell ⟨w.heap.size, 11, none⟩ (.slice y.pa y.pn y.pc)) = wn at *
      refine bodyPost_ret (results_cell_row rfl _ _ w.heap.size 87 (mvC y) (0, 0) _ (by rfl) S3 Tryz.underlying87 (by rfl) (by kernel_rfl)) rfl ?_
      exact ⟨by rw [HE.out], S1⟩
end Go.Proofs.YtanknpmojblmcaaGreatDoor

/-
  A world in memory.
-/
set_option linter.unusedSimpArgs false
set_option linter.unusedVariables false
namespace Go.Proofs.YtanknpmojblmcaaGreatDoor
open Go.RowKit

def slV (s : Sl) : Value := .slice s.1 s.2.1 s.2.2
/-- A world's own block. -/
def Wo (bw sy kb N : Nat) (t : Int) (w : World) : Prop := w.heap[bw]? = some (.cells #[.pointer (some ⟨sy, 0, none⟩), .int .i64 (N : Int), .int .i64 t, .pointer (some ⟨kb, 0, none⟩)] 41 (0, 0))
/-- A book in memory, outside E. -/
structure BM (D E : Nat → Prop) (kb : Nat) (ms : List MB) (bn bj : Nat) (bv : Value) (sl : Nat → Sl) (w : World) : Prop where
  bk : Bk kb bv bn bj w
  mr : w.ownsRow 0 87 12 bv ms.length (flatM (vsB ms sl))
  pr : ∀ k, k < ms.length → w.ownsRow 0 140 3 (slV (sl k)) (ms.getD k mb0).parts.length (flatPt (ms.getD k mb0).parts)
  dk : D kb ∧ ¬ E kb
  dv : ∀ g, bv.ownBlock = some g → D g ∧ ¬ E g
  dp : ∀ k, k < ms.length → ∀ g, (slV (sl k)).ownBlock = some g → D g ∧ ¬ E g
  nl : ms = [] → bv = .slice none 0 0
/-- A world in memory: its system lies in E, its book outside, all in D. -/
structure WM (D E : Nat → Prop) (bw sy kb : Nat) (x : WS) (gv jv qv bv : Value) (sl : Nat → Sl) (w : World) : Prop where
  wo : Wo bw sy kb x.p.nodes x.p.now w
  sm : SM E sy x.p gv jv qv w
  bm : BM D E kb x.ms x.bn x.p.js.length bv sl w
  ed : ∀ k, E k → D k
  dw : D bw ∧ ¬ E bw

variable {D E : Nat → Prop} {bw sy kb : Nat} {x : WS} {gv jv qv bv : Value} {sl : Nat → Sl} {w w' : World} {ms : List MB} {bn bj : Nat}

theorem BM.blk (h : BM D E kb ms bn bj bv sl w) (k : ∀ b, ¬ E b → b < w.heap.size → w'.heap[b]? = w.heap[b]?) : BM D E kb ms bn bj bv sl w' := by
  refine ⟨(k kb h.dk.2 h.bk.lt).trans h.bk, owns_same h.mr (fun g hg => k g (h.dv g hg).2 (h.mr.lt g hg).2), fun i hi => owns_same (h.pr i hi) (fun g hg => k g (h.dp i hi g hg).2 ((h.pr i hi).lt g hg).2), h.dk, h.dv, h.dp, h.nl⟩
theorem BM.below (h : BM D E kb ms bn bj bv sl w) (k : Below w.heap.size w w') : BM D E kb ms bn bj bv sl w' := h.blk (fun b _ hb => k.block b hb)
theorem BM.keep (h : BM D E kb ms bn bj bv sl w) (k : Keep E w w') : BM D E kb ms bn bj bv sl w' := h.blk (fun b he _ => k.block b he)
theorem BM.rows (h : BM D E kb ms bn bj bv sl w) : Ms bv (vsB ms sl) w := by
  refine Ms.of (base := 0) ?_
  rw [vsB_len]
  exact h.mr
theorem WM.below (h : WM D E bw sy kb x gv jv qv bv sl w) (k : Below w.heap.size w w') : WM D E bw sy kb x gv jv qv bv sl w' :=
  ⟨(k.block bw (whole_lt h.wo)).trans h.wo, h.sm.below k, h.bm.below k, h.ed, h.dw⟩
theorem WM.c (h : WM D E bw sy kb x gv jv qv bv sl w) : w.cell? ⟨bw, 0, none⟩ = some (.pointer (some ⟨sy, 0, none⟩)) ∧ w.cell? ⟨bw, 1, none⟩ = some (.int .i64 (x.p.nodes : Int)) ∧ w.cell? ⟨bw, 2, none⟩ = some (.int .i64 x.p.now) ∧ w.cell? ⟨bw, 3, none⟩ = some (.pointer (some ⟨kb, 0, none⟩)) := by
  have c0 := whole_cell h.wo 0; have c1 := whole_cell h.wo 1; have c2 := whole_cell h.wo 2; have c3 := whole_cell h.wo 3
  simp at c0 c1 c2 c3
  exact ⟨c0, c1, c2, c3⟩
theorem WM.dom (h : WM D E bw sy kb x gv jv qv bv sl w) : ∀ k, w.heap.size ≤ k → D k := fun k hk => h.ed k (h.sm.dom k hk)
/-- The system has gone on. -/
theorem WM.sys (h : WM D E bw sy kb x gv jv qv bv sl w) {q : PS} {gv' jv' qv' : Value} (s : SM E sy q gv' jv' qv' w') (k : Keep E w w') (hn : q.nodes = x.p.nodes) (ht : q.now = x.p.now) (hl : q.js.length = x.p.js.length) : WM D E bw sy kb ⟨q, x.ms, x.bn⟩ gv' jv' qv' bv sl w' := by
  refine ⟨?_, s, ?_, h.ed, h.dw⟩
  · show Wo bw sy kb q.nodes q.now w'
    rw [hn, ht]
    exact (k.block bw h.dw.2).trans h.wo
  · show BM D E kb x.ms x.bn q.js.length bv sl w'
    rw [hl]
    exact h.bm.keep k
theorem BM.setO (h : BM D E kb ms bn bj bv sl w) {a : Addr} (h1 : a.block ≠ kb) (h2 : bv.ownBlock ≠ some a.block) (h3 : ∀ k, k < ms.length → (slV (sl k)).ownBlock ≠ some a.block) (u : Value) : BM D E kb ms bn bj bv sl (w.setCell a u) :=
  ⟨whole_set_ne h.bk a (fun e => h1 e) u, ownsRow_setCell_other h.mr h2 u, fun i hi => ownsRow_setCell_other (h.pr i hi) (h3 i hi) u, h.dk, h.dv, h.dp, h.nl⟩
end Go.Proofs.YtanknpmojblmcaaGreatDoor

/-
  A world's walk: begin.
-/
set_option linter.unusedSimpArgs false
set_option linter.unusedVariables false
namespace Go.Proofs.YtanknpmojblmcaaGreatDoor
open Go.RowKit

set_option maxRecDepth 100000 in
set_option maxHeartbeats 1000000 in
theorem wBegin (c : Int) (h1 : -9223372036854775808 ≤ c) (h2 : c ≤ 9223372036854775807) (w : World) :
    Calls Tryz.prog 9 #[.int .i64 c] w fun e w' => ∃ b s k, e = .returned (.tuple #[.pointer (some ⟨b, 0, none⟩), .bool true]) ∧ WM (fun j => w.heap.size ≤ j) (fun j => w.heap.size ≤ j ∧ j ≠ b ∧ j ≠ k) b s k ⟨newP (1 + pikD c % 8), [], 0⟩ (.slice none 0 0) (.slice none 0 0) (.slice none 0 0) (.slice none 0 0) (fun _ => (none, 0, 0)) w' ∧ Below w.heap.size w w' := by
  have hk : pikD c % 8 < 8 := Nat.mod_lt _ (by omega)
  go_enter Tryz.func9, Tryz.ntmps9
  go_wp2_with fail
  refine (pkPick c 8 h1 h2 (by omega) (by omega) w).mono ?_
  rintro e x1 ⟨rfl, rfl⟩
  obtain ⟨N, hN⟩ : ∃ N, N = 1 + pikD c % 8 := ⟨_, rfl⟩
  have HN : Hid (1 + pikD c % 8 = N) := hN.symm
  have e1 : (1 : Int) + ((pikD c % 8 : Nat) : Int) = (N : Int) := by omega
  obtain ⟨q, hq⟩ : ∃ q, q = pikD c % 8 := ⟨_, rfl⟩
  rw [← hq] at e1 ⊢
  have hN1 : 1 ≤ N := by omega
  have hN8 : N ≤ 8 := by omega
  clear hN hq hk
  go_wp2_with fail
  refine (syNew N hN1 hN8 _).mono ?_
  rintro e x2 ⟨s, rfl, hs, hS, hB⟩
  go_wp2_with fail
  go_ret2
  have hsz := hB.size
  have hs2 := hS.pl.lt
  have hB2 : Below x1.heap.size x1 ((x2.alloc (.cells #[.slice none 0 0, .int .i64 0, .int .i64 0] 25)).alloc (.cells #[.pointer (some ⟨s, 0, none⟩), .int .i64 (N : Int), .int .i64 0, .pointer (some ⟨x2.heap.size, 0, none⟩)] 41)) := (hB.alloc hB.size _).alloc (by simp; omega) _
  have hS2 := hS.below (((Below.refl _ x2).alloc (Nat.le_refl _) (.cells #[.slice none 0 0, .int .i64 0, .int .i64 0] 25)).alloc (by simp) (.cells #[.pointer (some ⟨s, 0, none⟩), .int .i64 (N : Int), .int .i64 0, .pointer (some ⟨x2.heap.size, 0, none⟩)] 41))
  have q := whole_new (x2.alloc (.cells #[.slice none 0 0, .int .i64 0, .int .i64 0] 25)) (.cells #[.pointer (some ⟨s, 0, none⟩), .int .i64 (N : Int), .int .i64 0, .pointer (some ⟨x2.heap.size, 0, none⟩)] 41 (0, 0))
  rw [World.size_alloc] at q
  have qk := whole_alloc (whole_new x2 (.cells #[.slice none 0 0, .int .i64 0, .int .i64 0] 25 (0, 0))) (.cells #[.pointer (some ⟨s, 0, none⟩), .int .i64 (N : Int), .int .i64 0, .pointer (some ⟨x2.heap.size, 0, none⟩)] 41)
  refine ⟨x2.heap.size + 1, s, x2.heap.size, rfl, ?_, hB2⟩
  rw [HN.out]
  refine ⟨q, ⟨hS2.pl, hS2.gr, hS2.jr, hS2.qr, ⟨hs, by omega, by omega⟩, by simp [Value.ownBlock], by simp [Value.ownBlock], by simp [Value.ownBlock], fun k hk => by simp at hk; exact ⟨by omega, by omega, by omega⟩⟩, ⟨qk, ?_, by intro k hk; simp at hk, ⟨by show x1.heap.size ≤ x2.heap.size; omega, by intro z; exact z.2.2 rfl⟩, by simp [Value.ownBlock], by intro k hk; simp at hk, fun _ => rfl⟩, fun k hk => hk.1, ⟨by show x1.heap.size ≤ x2.heap.size + 1; omega, fun z => z.2.1 rfl⟩⟩
  exact ⟨rfl, Or.inl ⟨rfl, rfl⟩⟩

theorem statP_get {p : PS} {i : Nat} (h : i < p.js.length) : statP p (i : Int) = ([.int .i64 ((p.js.getD i pj0).st : Int), .int .i64 ((p.js.getD i pj0).nd : Int), .int .i64 ((p.js.getD i pj0).tm : Int), .int .i64 (p.js.getD i pj0).sa, .int .i64 (p.js.getD i pj0).en], 0) := by
  unfold statP
  rw [if_neg (by unfold hasP; simp; omega)]
  simp
end Go.Proofs.YtanknpmojblmcaaGreatDoor

/-
  A world's walk: all.
-/
set_option linter.unusedSimpArgs false
set_option linter.unusedVariables false
namespace Go.Proofs.YtanknpmojblmcaaGreatDoor
open Go.RowKit

theorem hidW {p : Prop} (h : p) : Hid p := h
def stC (j : PJ) : List Value := [.int .i64 (j.st : Int), .int .i64 (j.nd : Int), .int .i64 (j.tm : Int), .int .i64 j.sa, .int .i64 j.en]
def flatSt (js : List PJ) : List Value := (js.map stC).flatten
theorem flatSt_take {js : List PJ} {k : Nat} (h : k < js.length) : flatSt (js.take (k + 1)) = flatSt (js.take k) ++ stC (js.getD k pj0) := by
  unfold flatSt
  rw [List.take_add_one, List.getElem?_eq_getElem h, List.map_append, List.flatten_append]
  simp [h]
theorem infoStatus : (Tryz.prog.info? 82).map (fun i => (i.zero, i.size, i.bytes)) = some (some (.agg #[.int .i64 0, .int .i64 0, .int .i64 0, .int .i64 0, .int .i64 0]), 5, 40) := by kernel_rfl

variable {D E : Nat → Prop} {bw sy kb : Nat} {x : WS} {gv jv qv bv : Value} {sl : Nat → Sl} {w w' : World}

theorem WOK.ms_le (h : WOK x) : x.ms.length ≤ 24 := by
  have h1 := h.wi.st.ok.n.ln
  have h2 := h.wi.bk.cnt
  have h3 : x.ms.length ≤ cntM x.ms := by
    have : ∀ ms : List MB, (∀ m ∈ ms, GoodB m) → ms.length ≤ cntM ms := by
      intro ms
      induction ms with
      | nil => intro _; simp
      | cons m r ih =>
        intro q
        have a := ih (fun y hy => q y (by simp [hy]))
        have b := (q m (by simp)).c1
        have e : cntM (m :: r) = m.count + cntM r := by simp [cntM]
        rw [e]; simp; omega
    exact this x.ms h.wi.bk.good
  omega

attribute [local go_sem ↓] Go.wp_at_zero Go.wp_at_succ
set_option maxRecDepth 100000 in
set_option maxHeartbeats 8000000 in
theorem wAll (h : WM D E bw sy kb x gv jv qv bv sl w) (hw : WOK x) :
    Calls Tryz.prog 11 #[.pointer (some ⟨bw, 0, none⟩)] w fun e w' => ∃ lv, e = .returned (.tuple #[lv, .bool true]) ∧ w'.ownsRow w.heap.size 82 5 lv x.p.js.length (flatSt x.p.js) ∧ Below w.heap.size w w' := by
  obtain ⟨i0, hI0, hz0, hz1, hz2⟩ := info_parts infoStatus
  have hl24 := hw.wi.st.ok.n.ln
  have hms := hw.ms_le
  have hn0 := hw.wi.st.f.n0
  have hn3 := hw.hi
  have HN : Hid (NOK x.p) := hw.wi.st.ok.n
  have HJS : Hid (∀ k, k < x.p.js.length → (x.p.js.getD k pj0).st ≤ 6) := fun k hk => (hw.wi.st.ok.n.js _ (getD_in hk)).st
  have HJB : Hid (∀ k, k < x.p.js.length → (x.p.js.getD k pj0).nd = (jobB x.ms k x.ms.length).job.nodes ∧ (x.p.js.getD k pj0).tm = (jobB x.ms k x.ms.length).job.time) := fun k hk => hw.wi.job hk
  clear hw
  have HW : Hid (WM D E bw sy kb x gv jv qv bv sl w) := h
  have hbw := whole_lt h.wo
  have hkb := h.bm.bk.lt
  clear h
  obtain ⟨N, hN⟩ : ∃ N, N = x.p.js.length := ⟨_, rfl⟩
  rw [← hN] at hl24
  have HNN : Hid (N = x.p.js.length) := hN
  clear hN
  go_enter Tryz.func11, Tryz.ntmps11
  go_wp2_with fail
  go_loopg [4, 5] (N + 1) (fun r l z wr => ∃ (k : Nat), k ≤ N ∧ r = N - k + 1 ∧ z = .int .i64 (k : Int) ∧ Below w.heap.size w wr ∧ wr.ownsRow w.heap.size 82 5 l k (flatSt (x.p.js.take k)))
  case atStart => exact ⟨0, Nat.zero_le _, rfl, rfl, Below.refl _ _, World.ownsRow_nil _ _ _ _⟩
  case round =>
    obtain ⟨k, hk, rfl, rfl, HB, hrow⟩ := hrel
    have c0 := (HB.cell (p := ⟨bw, 0, none⟩) hbw).trans HW.out.c.1
    have c3 := (HB.cell (p := ⟨bw, 3, none⟩) hbw).trans HW.out.c.2.2.2
    have k2 := (HB.cell (p := ⟨kb, 2, none⟩) hkb).trans (HW.out.bm.bk.c 2)
    simp at k2
    rw [show (x.p.js.length : Int) = (N : Int) from by rw [HNN.out]] at k2
    by_cases hlt : k < N
    · have hlt' : (k : Int) < (N : Int) := by omega
      have hlt2 : k < x.p.js.length := by rw [← HNN.out]; exact hlt
      have HSP : Hid (statP x.p (k : Int) = _) := statP_get hlt2
      have hst := HJS.out k hlt2
      have HNT : Hid ((x.p.js.getD k pj0).nd = (jobB x.ms k x.ms.length).job.nodes ∧ (x.p.js.getD k pj0).tm = (jobB x.ms k x.ms.length).job.time) := HJB.out k hlt2
      have HTK : Hid (flatSt (x.p.js.take (k + 1)) = flatSt (x.p.js.take k) ++ stC (x.p.js.getD k pj0)) := flatSt_take hlt2
      obtain ⟨xs, hxs⟩ : ∃ xs, xs = flatSt (x.p.js.take k) := ⟨_, rfl⟩
      rw [← hxs] at hrow HTK
      clear hxs hlt2
      go_wp2_with fail
      refine (syStatus (HW.out.sm.below HB) (k : Int) (by rw [← HNN.out]; exact hl24)).mono ?_
      rintro e y1 ⟨he, hY1⟩
      rw [HSP.out] at he
      obtain ⟨j, hj⟩ : ∃ j, j = x.p.js.getD k pj0 := ⟨_, rfl⟩
      rw [← hj] at he hst HNT HTK
      change e = .returned (.tuple #[.agg #[.int .i64 (j.st : Int), .int .i64 (j.nd : Int), .int .i64 (j.tm : Int), .int .i64 j.sa, .int .i64 j.en], .int .i64 0]) at he
      subst he
      clear hj HSP
      have HB1 := HB.trans (hY1.mono HB.size)
      have hr1 := owns_below hrow hY1
      clear hY1 hrow HB c0 c3 k2
      have Y := whole_new y1 (.cells #[.int .i64 (j.st : Int), .int .i64 (j.nd : Int), .int .i64 (j.tm : Int), .int .i64 j.sa, .int .i64 j.en] 82 (0, 0))
      have HB2 := HB1.alloc HB1.size (.cells #[.int .i64 (j.st : Int), .int .i64 (j.nd : Int), .int .i64 (j.tm : Int), .int .i64 j.sa, .int .i64 j.en] 82)
      have hr2 := hr1.alloc (.cells #[.int .i64 (j.st : Int), .int .i64 (j.nd : Int), .int .i64 (j.tm : Int), .int .i64 j.sa, .int .i64 j.en] 82)
      have d3 := (HB1.cell (p := ⟨bw, 3, none⟩) hbw).trans HW.out.c.2.2.2
      have c3 := (HB2.cell (p := ⟨bw, 3, none⟩) hbw).trans HW.out.c.2.2.2
      go_wp2_with fail
      obtain ⟨sb, hsb⟩ : ∃ sb, sb = y1.heap.size := ⟨_, rfl⟩
      rw [← hsb] at Y ⊢
      generalize y1.alloc (.cells #[.int .i64 (j.st : Int), .int .i64 (j.nd : Int), .int .i64 (j.tm : Int), .int .i64 j.sa, .int .i64 j.en] 82) = y2 at *
      clear hsb HB1 hr1 d3 c3
      have hW2 := HW.out.below HB2
      refine (wJob kb bv x.bn x.p.js.length x.ms sl k y2 hW2.bm.bk hW2.bm.rows (by omega)).mono ?_
      rintro e y3 ⟨rfl, hY3⟩
      obtain ⟨y, hy⟩ : ∃ y, y = mvI x.ms sl (jobI x.ms k x.ms.length) := ⟨_, rfl⟩
      have hyj : y.job = (jobB x.ms k x.ms.length).job := by rw [hy]; exact jobI_job _ _ _ _
      rw [← hyj] at HNT
      rw [← hy]
      clear hy hyj hW2
      have HB3 := HB2.trans (hY3.mono HB2.size)
      have hr3 := owns_below hr2 hY3
      replace Y := (hY3.block _ (whole_lt Y)).trans Y
      clear hY3 HB2 hr2
      unfold mvC
      have Z := whole_new y3 (.cells (mvC y) 87 (0, 0))
      have HB4 := HB3.alloc HB3.size (.cells (mvC y) 87)
      have hr4 := hr3.alloc (.cells (mvC y) 87)
      replace Y := whole_alloc Y (.cells (mvC y) 87)
      unfold mvC at Z HB4 hr4 Y
      go_upto_region 7 with fail
      obtain ⟨hb, hhb⟩ : ∃ hb, hb = y3.heap.size := ⟨_, rfl⟩
      rw [← hhb] at Z ⊢
      generalize y3.alloc (.cells #[.int .i64 (y.batch : Int), .string (bs y.job.name), .int .i64 (y.job.nodes : Int), .int .i64 (y.job.time : Int), .bool y.job.arr, .int .i64 (y.job.lo : Int), .int .i64 (y.job.hi : Int), .string (bs y.job.after), .int .i64 (y.first : Int), .int .i64 (y.count : Int), .string (bs y.want), .slice y.pa y.pn y.pc] 87) = y4 at *
      clear hhb HB3 hr3
      have a0 := whole_cell Y 0; have a1 := whole_cell Y 1; have a2 := whole_cell Y 2; have a3 := whole_cell Y 3; have a4 := whole_cell Y 4
      have b2 := whole_cell Z 2; have b3 := whole_cell Z 3
      simp at a0 a1 a2 a3 a4 b2 b3
      rw [← HNT.out.1] at b2
      rw [← HNT.out.2] at b3
      have g1 : ¬ (j.st : Int) < 0 := by omega
      have g2 : ¬ (6 : Int) < (j.st : Int) := by omega
      clear HNT
      have hs4 := HB4.size
      go_wp2_with (at_builtin; refine wpList_append_lies _ rfl _ _ 43 rfl w.heap.size 82 i0 (.agg #[.int .i64 0, .int .i64 0, .int .i64 0, .int .i64 0, .int .i64 0]) 5 40 Tryz.underlying43 hI0 hz0 hz1 hz2 rfl (by decide) _ k xs rfl (hr4.alloc _) ⟨y4.heap.size, 0, none⟩ 1 1 [.int .i64 (j.st : Int), .int .i64 (j.nd : Int), .int .i64 (j.tm : Int), .int .i64 j.sa, .int .i64 j.en] rfl rfl (World.news_of_block (cs := #[.int .i64 (j.st : Int), .int .i64 (j.nd : Int), .int .i64 (j.tm : Int), .int .i64 j.sa, .int .i64 j.en]) (t := 82) (fr := (0, 0)) (heap_alloc_new y4 _)) ?c2 (by decide) ?c3 ?c4 ?c5 _ rfl ?_)
      case c2 => first | exact ⟨rfl, rfl, rfl, rfl, rfl⟩ | (intro u hu; simp at hu; rcases hu with rfl | rfl | rfl | rfl | rfl <;> rfl)
      case c3 => unfold maxLen; omega
      case c4 => omega
      case c5 => first | omega | (simp; omega) | (simp only [World.size_alloc]; omega)
      intro g5 cap5 w5 hown5 hgrow5 hat5 hlt5
      have HB5 : Below w.heap.size w w5 := by
        refine (HB4.alloc HB4.size _).trans ⟨hgrow5.os, hgrow5.tape, hgrow5.output, hgrow5.size, ?_⟩
        intro q hq
        refine hgrow5.block q (by have := HB4.size; simp; omega) ?_
        intro e
        have := (hr4.lt q e.symm).1
        omega
      clear hgrow5 hat5 hlt5 hr4 HB4 Y Z a0 a1 a2 a3 a4 b2 b3
      go_wp2_with fail
      go_roundg (N - (k + 1) + 1)
      case measure => omega
      case rel => exact ⟨k + 1, by omega, rfl, by go_num, HB5, by rw [HTK.out]; exact hown5⟩
    · have hlt' : ¬ (k : Int) < (N : Int) := by omega
      have hke : k = N := by omega
      subst hke
      clear hk hlt
      have HTA : Hid (x.p.js.take k = x.p.js) := by show _ = _; rw [HNN.out]; exact List.take_length
      rw [HTA.out] at hrow
      have HST : Hid (statP x.p (k : Int) = ([.int .i64 0, .int .i64 0, .int .i64 0, .int .i64 0, .int .i64 0], 11)) := by
        show _ = _
        unfold statP
        rw [if_pos (by unfold hasP; rw [← HNN.out]; simp)]
      obtain ⟨FS, hFS⟩ : ∃ FS, FS = flatSt x.p.js := ⟨_, rfl⟩
      rw [← hFS] at hrow
      have HFS : Hid (FS = flatSt x.p.js) := hFS
      clear hFS HTA
      have hWx := HW.out.below HB
      have HWX : Hid (WM D E bw sy kb x gv jv qv bv sl wr) := hWx
      clear hWx
      have hbx : bw < wr.heap.size := Nat.lt_of_lt_of_le hbw HB.size
      have hkx : kb < wr.heap.size := Nat.lt_of_lt_of_le hkb HB.size
      have hl4 : u4.ownBlock = u4.ownBlock := rfl
      go_upto_region 10 with fail
      go_cut [10] (fun s10 wx => s10 = .int .i64 11 ∧ Hid (Below wr.heap.size wr wx))
      case first =>
        have YS := whole_new wr (.cells #[.int .i64 0, .int .i64 0, .int .i64 0, .int .i64 0, .int .i64 0] 82 (0, 0))
        have Bd : Below wr.heap.size wr wr.drew := (Below.refl _ _).drew
        have Ba : Below wr.heap.size wr (wr.alloc (.cells #[.int .i64 0, .int .i64 0, .int .i64 0, .int .i64 0, .int .i64 0] 82)).drew := ((Below.refl _ _).alloc (Nat.le_refl _) _).drew
        have c0 := HWX.out.c.1; have c3 := HWX.out.c.2.2.2
        have k2 := HWX.out.bm.bk.c 2
        simp at k2
        rw [show (x.p.js.length : Int) = (k : Int) from by rw [HNN.out]] at k2
        have hlk : x.p.js.length ≤ 24 := by rw [← HNN.out]; exact hl24
        go_region_with (first
          | (go_at_call 27; refine (syStatus (w := wr.drew) (HWX.out.below (Below.refl _ _).drew).sm (k : Int) hlk).mono ?_; rintro e y1 ⟨he, hY1⟩; rw [HST.out] at he; subst he; have By : Below wr.heap.size wr y1 := Bd.trans (hY1.mono (Nat.le_refl _)); have BB := hidW (By.alloc By.size (.cells #[.int .i64 0, .int .i64 0, .int .i64 0, .int .i64 0, .int .i64 0] 82)))
          | (go_at_call 27; refine (syStatus (w := (wr.alloc (.cells #[.int .i64 0, .int .i64 0, .int .i64 0, .int .i64 0, .int .i64 0] 82)).drew) (HWX.out.below ((Below.refl _ _).alloc (Nat.le_refl _) (.cells #[.int .i64 0, .int .i64 0, .int .i64 0, .int .i64 0, .int .i64 0] 82)).drew).sm (k : Int) hlk).mono ?_; rintro e y1 ⟨he, hY1⟩; rw [HST.out] at he; subst he; have By : Below wr.heap.size wr y1 := Ba.trans (hY1.mono (by simp)); have Yv := (hY1.block wr.heap.size (by simp)).trans YS; have z0 := whole_frozen Yv 0; have z1 := whole_frozen Yv 1; have z2 := whole_frozen Yv 2; have z3 := whole_frozen Yv 3; have z4 := whole_frozen Yv 4; have j0 := whole_cell Yv 0; have j1 := whole_cell Yv 1; have j2 := whole_cell Yv 2; have j3 := whole_cell Yv 3; have j4 := whole_cell Yv 4; simp at j0 j1 j2 j3 j4; have BB := hidW (((((By.setCell (p := ⟨wr.heap.size, 0, none⟩) (Nat.le_refl _) (.int .i64 0)).setCell (p := ⟨wr.heap.size, 1, none⟩) (Nat.le_refl _) (.int .i64 0)).setCell (p := ⟨wr.heap.size, 2, none⟩) (Nat.le_refl _) (.int .i64 0)).setCell (p := ⟨wr.heap.size, 3, none⟩) (Nat.le_refl _) (.int .i64 0)).setCell (p := ⟨wr.heap.size, 4, none⟩) (Nat.le_refl _) (.int .i64 0))))
        all_goals
          go_wp2_with fail
          go_meet
          case rel => exact ⟨rfl, BB⟩
      case rest =>
        obtain ⟨rfl, HBX⟩ := hcut
        rename World => y1
        have HB5 := HB.trans (HBX.out.mono HB.size)
        have hr5 := owns_below hrow HBX.out
        have HWY : Hid (WM D E bw sy kb x gv jv qv bv sl y1) := HWX.out.below HBX.out
        clear HB hrow HWX HBX
        have c0 := HWY.out.c.1
        go_wp2_with fail
        refine (syClock HWY.out.sm HN.out).mono ?_
        rintro e y2 ⟨rfl, hY2⟩
        rw [show (x.p.js.length : Int) = (k : Int) from by rw [HNN.out]]
        have HB6 := HB5.trans (hY2.mono HB5.size)
        have hr6 := owns_below hr5 hY2
        have HWZ : Hid (WM D E bw sy kb x gv jv qv bv sl y2) := HWY.out.below hY2
        clear HB5 hr5 HWY hY2 c0
        have c2 := HWZ.out.c.2.2.1; have c3 := HWZ.out.c.2.2.2
        have k2 := HWZ.out.bm.bk.c 2
        simp at k2
        rw [show (x.p.js.length : Int) = (k : Int) from by rw [HNN.out]] at k2
        generalize x.p.now = tn at *
        generalize freeF x.p.nodes x.p.js = fr at *
        go_wp2_with fail
        go_quiet (fail)
        go_wp2_with fail
        go_ret2
        refine ⟨_, rfl, ?_, below_drewN HB6 _⟩
        rw [← HFS.out, ← HNN.out]
        exact hr6
end Go.Proofs.YtanknpmojblmcaaGreatDoor
