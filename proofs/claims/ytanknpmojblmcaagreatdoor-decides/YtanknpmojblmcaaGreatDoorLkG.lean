/-
  Package link: the first of a list that is not free; the first that is stuck.
-/
import Derived.Test.YtanknpmojblmcaaGreatDoorLkF
set_option linter.unusedSimpArgs false
set_option linter.unusedVariables false
namespace Go.Proofs.YtanknpmojblmcaaGreatDoor
open Go.RowKit

/-- A list of truths, to be read alone; of numbers that may be below zero. -/
def Bs (v : Value) (fs : List Bool) (w : World) : Prop :=
  (v = .slice none 0 0 ∧ fs = []) ∨ ∃ g cap, v = .slice (some ⟨g, 0, none⟩) fs.length cap ∧ fs.length ≤ cap ∧ g < w.heap.size ∧ ∀ k, (hk : k < fs.length) → w.cell? ⟨g, k, none⟩ = some (.bool fs[k])
def Zs (v : Value) (zs : List Int) (w : World) : Prop :=
  (v = .slice none 0 0 ∧ zs = []) ∨ ∃ g cap, v = .slice (some ⟨g, 0, none⟩) zs.length cap ∧ zs.length ≤ cap ∧ g < w.heap.size ∧ ∀ k, (hk : k < zs.length) → w.cell? ⟨g, k, none⟩ = some (.int .i64 zs[k])
theorem Bs.form {v : Value} {js : List Bool} {w : World} (h : Bs v js w) : ∃ a c, v = .slice a js.length c := by
  rcases h with ⟨rfl, rfl⟩ | ⟨g, cap, rfl, _⟩
  · exact ⟨_, _, rfl⟩
  · exact ⟨_, _, rfl⟩
theorem Zs.form {v : Value} {js : List Int} {w : World} (h : Zs v js w) : ∃ a c, v = .slice a js.length c := by
  rcases h with ⟨rfl, rfl⟩ | ⟨g, cap, rfl, _⟩
  · exact ⟨_, _, rfl⟩
  · exact ⟨_, _, rfl⟩

/-- The first of a list that is not free, -1 if there is none. -/
def notFr (fs : List Bool) : List Nat → Int
  | [] => -1
  | k :: r => if fs.getD k false then notFr fs r else (k : Int)
/-- The place of the first that is not below zero, from n on. -/
def stuckF (n : Nat) : List Int → Int
  | [] => -1
  | z :: r => if 0 ≤ z then (n : Int) else stuckF (n + 1) r

set_option maxRecDepth 100000 in
set_option maxHeartbeats 1000000 in
theorem lkNotFree (v u : Value) (js : List Nat) (fs : List Bool) (w : World) (hN : Ns v js w) (hF : Bs u fs w) (hl : js.length ≤ 1000000) (hm : fs.length ≤ 1000000) (hj : ∀ j ∈ js, j < fs.length) :
    Calls Tryz.prog 115 #[v, u] w fun e w' => e = .returned (.int .i64 (notFr fs js)) ∧ Below w.heap.size w w' := by
  obtain ⟨a, c, rfl⟩ := hN.form
  obtain ⟨a', c', rfl⟩ := hF.form
  have HJ : Hid (∀ j ∈ js, j < fs.length) := hj
  clear hj
  go_enter Tryz.func115, Tryz.ntmps115
  go_wp2_with fail
  go_loopg [9] (js.length + 1) (fun r x wr => ∃ (n : Nat) (wz : World), wz = wr ∧ n ≤ js.length ∧ r = js.length - n + 1 ∧ x = .int .i64 (n : Int) ∧ Hid (notFr fs js = notFr fs (js.drop n)) ∧ Below w.heap.size w wz)
  case atStart => exact ⟨0, _, rfl, Nat.zero_le _, rfl, rfl, (show notFr fs js = notFr fs (js.drop 0) by simp), Below.refl _ _⟩
  case round =>
    obtain ⟨n, wz, rfl, hn, rfl, rfl, HL, hB⟩ := hrel
    by_cases hlt : n < js.length
    · have hlt' : (n : Int) < (js.length : Int) := by omega
      rcases hN with ⟨_, rfl⟩ | ⟨b, cap, hv, hcap, hb, hcell⟩
      · simp at hlt
      cases hv
      have l0 := (hB.cell (p := ⟨b, n, none⟩) hb).trans (hcell n hlt)
      have hjn := HJ.out js[n] (List.getElem_mem hlt)
      have HD : Hid (js.drop n = js[n] :: js.drop (n + 1)) := List.drop_eq_getElem_cons hlt
      generalize js[n] = j at *
      rcases hF with ⟨_, rfl⟩ | ⟨b', cap', hv', hcap', hb', hcell'⟩
      · simp at hjn
      cases hv'
      have m0 := (hB.cell (p := ⟨b', j, none⟩) hb').trans (hcell' j hjn)
      have HG : Hid (fs.getD j false = fs[j]) := by show _ = _; simp [hjn]
      have hjI : (j : Int) < (fs.length : Int) := by omega
      clear hcell hcell'
      cases hf : fs[j] with
      | true =>
        rw [hf] at m0
        have HF : Hid (fs.getD j false = true) := by show _ = _; rw [HG.out, hf]
        clear hf HG
        go_wp2_with fail
        go_roundg (js.length - (n + 1) + 1)
        case measure => omega
        case rel =>
          refine ⟨n + 1, _, rfl, by omega, rfl, by go_num, ?_, hB⟩
          show _ = _
          rw [HL.out, HD.out]
          show (if fs.getD j false = true then _ else _) = _
          rw [if_pos HF.out]
      | false =>
        rw [hf] at m0
        have HF : Hid (¬ fs.getD j false = true) := by show ¬ _; rw [HG.out, hf]; simp
        clear hf HG
        go_wp2_with fail
        go_ret
        refine ⟨ret_int ?_, hB⟩
        rw [HL.out, HD.out]
        show _ = (if fs.getD j false = true then _ else _)
        rw [if_neg HF.out]
    · have hlt' : decide ((n : Int) < (js.length : Int)) = false := by simp; omega
      have HN : Hid (js.drop n = []) := (show js.drop n = [] from List.drop_eq_nil_of_le (by omega))
      go_wp2_with fail
      go_ret
      refine ⟨ret_int ?_, hB⟩
      rw [HL.out, HN.out]
      rfl

set_option maxRecDepth 100000 in
set_option maxHeartbeats 1000000 in
theorem lkStuck (v : Value) (zs : List Int) (w : World) (hN : Zs v zs w) (hl : zs.length ≤ 1000000) :
    Calls Tryz.prog 85 #[v] w fun e w' => e = .returned (.int .i64 (stuckF 0 zs)) ∧ Below w.heap.size w w' := by
  obtain ⟨a, c, rfl⟩ := hN.form
  go_enter Tryz.func85, Tryz.ntmps85
  go_wp2_with fail
  go_loopg [7] (zs.length + 1) (fun r x wr => ∃ (n : Nat) (wz : World), wz = wr ∧ n ≤ zs.length ∧ r = zs.length - n + 1 ∧ x = .int .i64 (n : Int) ∧ Hid (stuckF 0 zs = stuckF n (zs.drop n)) ∧ Below w.heap.size w wz)
  case atStart => exact ⟨0, _, rfl, Nat.zero_le _, rfl, rfl, (show stuckF 0 zs = stuckF 0 (zs.drop 0) by simp), Below.refl _ _⟩
  case round =>
    obtain ⟨n, wz, rfl, hn, rfl, rfl, HL, hB⟩ := hrel
    by_cases hlt : n < zs.length
    · have hlt' : (n : Int) < (zs.length : Int) := by omega
      rcases hN with ⟨_, rfl⟩ | ⟨b, cap, hv, hcap, hb, hcell⟩
      · simp at hlt
      cases hv
      have l0 := (hB.cell (p := ⟨b, n, none⟩) hb).trans (hcell n hlt)
      have HD : Hid (zs.drop n = zs[n] :: zs.drop (n + 1)) := List.drop_eq_getElem_cons hlt
      generalize zs[n] = z at *
      clear hcell
      by_cases hz : 0 ≤ z
      · have HF : Hid (0 ≤ z) := hz
        go_wp2_with fail
        go_ret
        refine ⟨ret_int ?_, hB⟩
        rw [HL.out, HD.out]
        show _ = (if 0 ≤ z then _ else _)
        rw [if_pos HF.out]
      · have HF : Hid (¬ 0 ≤ z) := hz
        have hz' : decide (0 ≤ z) = false := by simp; omega
        go_wp2_with fail
        go_roundg (zs.length - (n + 1) + 1)
        case measure => omega
        case rel =>
          refine ⟨n + 1, _, rfl, by omega, rfl, by go_num, ?_, hB⟩
          show _ = _
          rw [HL.out, HD.out]
          show (if 0 ≤ z then _ else _) = _
          rw [if_neg (by have := HF.out; omega)]
    · have hlt' : decide ((n : Int) < (zs.length : Int)) = false := by simp; omega
      have HN : Hid (zs.drop n = []) := (show zs.drop n = [] from List.drop_eq_nil_of_le (by omega))
      go_wp2_with fail
      go_ret
      refine ⟨ret_int ?_, hB⟩
      rw [HL.out, HN.out]
      rfl

end Go.Proofs.YtanknpmojblmcaaGreatDoor
