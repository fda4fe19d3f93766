/-
  Read of the package batch.
-/
import Derived.Test.YtanknpmojblmcaaDoorReadW
set_option linter.unusedSimpArgs false
set_option linter.unusedVariables false
namespace Go.Proofs.YtanknpmojblmcaaDoor
open Go.RowKit

/-- A job, as api has it. -/
structure JV where
  name : List UInt8
  nodes : Nat
  time : Nat
  arr : Bool
  lo : Nat
  hi : Nat
  after : List UInt8

def jobOf (h : HV) : JV := ⟨h.name, h.nodes, h.time, h.arr, h.lo, h.hi, h.after⟩
def jvC (h : JV) : Array Value := #[.string (bs h.name), .int .i64 (h.nodes : Int), .int .i64 (h.time : Int), .bool h.arr, .int .i64 (h.lo : Int), .int .i64 (h.hi : Int), .string (bs h.after)]
def jv0 : JV := ⟨[], 0, 0, false, 0, 0, []⟩
def flatJ (hs : List JV) : List Value := (hs.map fun h => (jvC h).toList).flatten
theorem flatJ_snoc (hs : List JV) (h : JV) : flatJ (hs ++ [h]) = flatJ hs ++ (jvC h).toList := by simp [flatJ]
theorem infoJob : (Tryd.prog.info? 32).map (fun i => (i.zero, i.size, i.bytes)) = some (some (.agg (jvC jv0)), 7, 72) := by kernel_rfl

def readJ (L : List UInt8) : List JV := if (readH L).2.1 = 0 then (readH L).1.map jobOf else []

theorem readH_len (L : List UInt8) : (readH L).1.length ≤ 601 := by
  unfold readH
  split
  · simp
  · have := hdsR_len L
    split
    · simp
    split
    · simp
    split
    · simp
    · simp; omega
theorem readH_err (L : List UInt8) : (readH L).2.1 ≤ 4 := by
  unfold readH
  split
  · simp
  split
  · simp
  split
  · simp
  split
  · simp
  · simp

def okP (r : List HV × (Nat × Nat)) : Prop := r.2.1 = 0 → r.2.2 = 0
theorem readH_ok (L : List UInt8) : okP (readH L) := by
  unfold readH
  split
  · intro h; simp at h
  split
  · intro h; simp at h
  split
  · intro h; simp at h
  split
  · intro h; simp at h
  · intro h; rfl

set_option maxHeartbeats 1000000 in
theorem Read_any (T : ByteArray) (w : World) (hT : T.size ≤ maxLen) :
    Calls Tryd.prog 5 #[.string T] w fun e w' => ∃ v, e = .returned (.tuple #[v, .int .i64 ((readH T.data.toList).2.1 : Int), .int .i64 ((readH T.data.toList).2.2 : Int)]) ∧ w'.ownsRow w.heap.size 32 7 v (readJ T.data.toList).length (flatJ (readJ T.data.toList)) ∧ Below w.heap.size w w' := by
  obtain ⟨i0, hi, hz0, hz1, hz2⟩ := info_parts infoJob
  have hln := readH_len T.data.toList
  have her := readH_err T.data.toList
  have hok := readH_ok T.data.toList
  go_enter Tryd.func5, Tryd.ntmps5
  go_wp2_with fail
  refine (headRead_any T _ hT).mono ?_
  rintro e w1 ⟨v, xs, rfl, hown, hxs, hsr, hB⟩
  have HJ : Hid (readJ T.data.toList = if (readH T.data.toList).2.1 = 0 then (readH T.data.toList).1.map jobOf else []) := rfl
  generalize hrr : readH T.data.toList = r at *
  have HRR : Hid (readH T.data.toList = r) := hrr
  clear hrr
  obtain ⟨hs, er, at1⟩ := r
  simp only at hown hln her HJ hok hxs
  by_cases h0 : er = 0
  · subst h0
    have hat : at1 = 0 := hok rfl
    subst hat
    clear hok
    have HJ2 : Hid (readJ T.data.toList = hs.map jobOf) := HJ
    clear HJ
    have HS := Hs.of hown hxs hsr
    clear hown hxs hsr
    rcases HS with ⟨rfl, rfl⟩ | ⟨g, cap, qs, rfl, hc, hg, hqs, hcell⟩
    · go_wp2_with fail
      go_loopg [8, 23] 1 (fun k u x wr => k = 1 ∧ u = .slice none 0 0 ∧ x = .int .i64 0 ∧ wr = w1)
      case atStart => exact ⟨rfl, rfl, rfl, rfl⟩
      case round =>
        obtain ⟨rfl, rfl, rfl, rfl⟩ := hrel
        go_wp2_with fail
        go_ret3
        rw [HRR.out, HJ2.out]
        exact ⟨_, rfl, World.ownsRow_nil _ _ _ _, hB⟩
    · go_wp2_with fail
      go_loopg [8, 23] hs.length (fun m u x wr => ∃ k : Nat, m = hs.length - k ∧ k ≤ hs.length ∧ x = .int .i64 (k : Int) ∧ Below w1.heap.size w1 wr ∧ wr.ownsRow w1.heap.size 32 7 u ((hs.take k).map jobOf).length (flatJ ((hs.take k).map jobOf)))
      case atStart => exact ⟨0, rfl, Nat.zero_le _, rfl, Below.refl _ _, World.ownsRow_nil _ _ _ _⟩
      case round =>
        obtain ⟨k, rfl, hk, rfl, hB2, hown2⟩ := hrel
        by_cases hlt : k < hs.length
        · have hlt' : (k : Int) < (hs.length : Int) := by omega
          have hcl : ∀ j, j < 12 → wr.cell? ⟨g, k * 12 + j, none⟩ = (hvC hs[k] (qs k))[j]? := fun j hj => (hB2.cell hg).trans (hcell k hlt j hj)
          have l0 := hcl 0 (by omega); have l1 := hcl 1 (by omega); have l2 := hcl 2 (by omega); have l3 := hcl 3 (by omega); have l4 := hcl 4 (by omega); have l5 := hcl 5 (by omega); have l6 := hcl 6 (by omega); have l7 := hcl 7 (by omega); have l8 := hcl 8 (by omega); have l9 := hcl 9 (by omega); have l10 := hcl 10 (by omega); have l11 := hcl 11 (by omega)
          obtain ⟨pq, nq', cq, hqk⟩ := hqs k hlt
          rw [hqk] at l0 l1 l2 l3 l4 l5 l6 l7 l8 l9 l10 l11
          have HX : Hid ((hs.take (k + 1)).map jobOf = (hs.take k).map jobOf ++ [jobOf hs[k]]) := by show _ = _; rw [List.take_succ_eq_append_getElem hlt, List.map_append]; rfl
          generalize hs[k] = x at *
          simp [hvC] at l0 l1 l2 l3 l4 l5 l6 l7 l8 l9 l10 l11
          have hlk : ((hs.take k).map jobOf).length ≤ 601 := by simp; omega
          have HC : Hid _ := hcell
          clear hcl hcell
          have q1 := hB2.size
          generalize (hs.take k).map jobOf = js at *
          go_wp2_with (at_builtin; refine wpList_append_own _ rfl _ _ 27 rfl w1.heap.size 32 i0 (.agg (jvC jv0)) 7 72 Tryd.underlying27 hi hz0 hz1 hz2 rfl (by decide) _ _ _ rfl ((hown2.alloc _).alloc _) ⟨wr.heap.size + 1, 0, none⟩ 1 1 (jvC (jobOf x)).toList rfl rfl ?c1 ?c2 ?c3 ?c4 ?c5 ?_)
          case c1 =>
            refine new_cells (t := 32) ?_
            have := whole_new (wr.alloc (.cells (hvC x (.slice pq nq' cq)) 51)) (.cells (jvC (jobOf x)) 32)
            rw [World.size_alloc] at this; exact this
          case c2 => intro u hu; simp [jvC] at hu; rcases hu with rfl | rfl | rfl | rfl | rfl | rfl | rfl <;> rfl
          case c3 => unfold maxLen; omega
          case c4 => omega
          case c5 => simp; omega
          intro v4 w4 hown4 hgrow4 _
          have hB4 : Below w1.heap.size w1 w4 := ((hB2.alloc (by omega) _).alloc (by simp; omega) _).grown hgrow4 (by simp; omega) (fun k hk => (hown2.lt k hk).1)
          rw [← flatJ_snoc] at hown4
          replace hown4 : w4.ownsRow w1.heap.size 32 7 v4 ((hs.take (k + 1)).map jobOf).length (flatJ ((hs.take (k + 1)).map jobOf)) := by rw [HX.out]; simpa using hown4
          clear hgrow4 hown2 hB2
          go_wp2_with fail
          go_roundg (hs.length - (k + 1))
          case measure => omega
          case rel => exact ⟨k + 1, rfl, hlt, by go_num, hB4, hown4⟩
        · have hlt' : decide ((k : Int) < (hs.length : Int)) = false := by simp; omega
          rw [List.take_of_length_le (by omega)] at hown2
          clear hcell
          go_wp2_with fail
          go_ret3
          rw [HRR.out, HJ2.out]
          exact ⟨_, rfl, ownsRow_base hown2 hB.size, hB.trans (hB2.mono hB.size)⟩
  · have h0' : ((er : Int) != 0) = true := by rw [bne_iff_ne]; omega
    have HJ2 : Hid (readJ T.data.toList = []) := by show _ = _; rw [HJ.out, if_neg h0]
    clear HJ
    clear h0 hok
    go_wp2_with fail
    go_ret3
    rw [HRR.out, HJ2.out]
    exact ⟨_, rfl, World.ownsRow_nil _ _ _ _, hB⟩

end Go.Proofs.YtanknpmojblmcaaDoor
