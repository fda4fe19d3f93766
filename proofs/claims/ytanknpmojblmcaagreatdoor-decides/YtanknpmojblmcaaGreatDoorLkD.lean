/-
  Package link: the code that asks something of several jobs.
-/
import Derived.Test.YtanknpmojblmcaaGreatDoorLkC
set_option linter.unusedSimpArgs false
set_option linter.unusedVariables false
namespace Go.Proofs.YtanknpmojblmcaaGreatDoor
open Go.RowKit

/-- A list of numbers, to be read alone. -/
def Ns (v : Value) (js : List Nat) (w : World) : Prop :=
  (v = .slice none 0 0 ∧ js = []) ∨ ∃ g cap, v = .slice (some ⟨g, 0, none⟩) js.length cap ∧ js.length ≤ cap ∧ g < w.heap.size ∧ ∀ k, (hk : k < js.length) → w.cell? ⟨g, k, none⟩ = some (.int .i64 (js[k] : Int))
theorem Ns.below {v : Value} {js : List Nat} {w w' : World} (h : Ns v js w) (k : Below w.heap.size w w') : Ns v js w' := by
  rcases h with h | ⟨g, cap, hv, hc, hg, hcell⟩
  · exact Or.inl h
  · exact Or.inr ⟨g, cap, hv, hc, Nat.lt_of_lt_of_le hg k.size, fun i hi => (k.cell (p := ⟨g, i, none⟩) hg).trans (hcell i hi)⟩
theorem Ns.form {v : Value} {js : List Nat} {w : World} (h : Ns v js w) : ∃ a c, v = .slice a js.length c := by
  rcases h with ⟨rfl, rfl⟩ | ⟨g, cap, rfl, _⟩
  · exact ⟨_, _, rfl⟩
  · exact ⟨_, _, rfl⟩

/-- The code that asks op of the first n jobs. -/
def askN (op : Nat) (js : List Nat) : Nat → List UInt8
  | 0 => []
  | n + 1 => askN op js n ++ [UInt8.ofNat op, UInt8.ofNat (js.getD n 0)] ++ (if n = 0 then [] else [5])
def askAll (op : Nat) (js : List Nat) : List UInt8 := if js = [] then [0] else askN op js js.length
theorem askN_len (op : Nat) (js : List Nat) : ∀ n, (askN op js n).length ≤ 3 * n := by
  intro n
  induction n with
  | zero => simp [askN]
  | succ n ih => unfold askN; split <;> simp <;> omega

set_option maxRecDepth 100000 in
set_option maxHeartbeats 1000000 in
theorem lkOfAll (v : Value) (op : Nat) (js : List Nat) (w : World) (hN : Ns v js w) (hop : op < 256) (hl : js.length ≤ 1000) (hj : ∀ j ∈ js, j < 256) :
    Calls Tryz.prog 88 #[.int .i64 (op : Int), v] w fun e w' => e = .returned (.string (bs (askAll op js))) ∧ Below w.heap.size w w' := by
  obtain ⟨a, c, rfl⟩ := hN.form
  go_enter Tryz.func88, Tryz.ntmps88
  by_cases h0 : js = []
  · subst h0
    go_wp2_with fail
    refine (lkText 0 (by omega) w).mono ?_
    rintro e w1 ⟨rfl, hw1⟩
    go_wp2_with fail
    go_ret
    exact ⟨rfl, hw1⟩
  · have hln : ((js.length : Int) == 0) = false := by
      cases js with
      | nil => exact absurd rfl h0
      | cons x r => simp; omega
    have HZ : Hid (js ≠ []) := h0
    clear h0
    go_wp2_with fail
    go_loopg [5, 14] (js.length + 1) (fun g sv x wr => ∃ (k : Nat) (wz : World), wz = wr ∧ k ≤ js.length ∧ g = js.length - k + 1 ∧ sv = .string (bs (askN op js k)) ∧ x = .int .i64 (k : Int) ∧ Below w.heap.size w wz)
    case atStart => exact ⟨0, _, rfl, Nat.zero_le _, rfl, rfl, rfl, Below.refl _ _⟩
    case round =>
      obtain ⟨k, wz, rfl, hk, rfl, rfl, rfl, hw⟩ := hrel
      have hlA := askN_len op js k
      have hsA := bs_size (askN op js k)
      by_cases hlt : k < js.length
      · have hlt' : (k : Int) < (js.length : Int) := by omega
        rcases hN with ⟨_, rfl⟩ | ⟨g, cap, hv, hc, hg, hcell⟩
        · simp at hlt
        cases hv
        have lk := (hw.cell (p := ⟨g, k, none⟩) hg).trans (hcell k hlt)
        have hjk : js[k] < 256 := hj _ (List.getElem_mem hlt)
        have HG : Hid (js.getD k 0 = js[k]) := by show _ = _; simp [hlt]
        generalize hjx : js[k] = jk at *
        clear hjx
        go_wp2_with fail
        refine (lkText op hop _).mono ?_
        rintro e w1 ⟨rfl, hw1⟩
        have hS1 : ¬ 9223372036854775807 < (bs (askN op js k)).size + (bs [UInt8.ofNat op]).size := by rw [bs_size, bs_size]; simp; omega
        go_wp2_with fail
        simp only [bs_append]
        refine (lkText jk hjk _).mono ?_
        rintro e w2 ⟨rfl, hw2⟩
        replace hw2 := hw1.trans (hw2.mono hw1.size)
        replace hw2 : Below w.heap.size w w2 := hw.trans (hw2.mono hw.size)
        have hs2 := bs_size (askN op js k ++ [UInt8.ofNat op])
        have hS2 : ¬ 9223372036854775807 < (bs (askN op js k ++ [UInt8.ofNat op])).size + (bs [UInt8.ofNat jk]).size := by rw [bs_size, bs_size]; simp; omega
        cases k with
        | zero =>
          go_wp2_with fail
          go_roundg (js.length - 1 + 1)
          case measure => omega
          case rel =>
            refine ⟨1, _, rfl, by omega, rfl, ?_, rfl, hw2⟩
            rw [bs_append]
            unfold askN
            rw [HG.out]
            simp [askN]
        | succ k =>
          have hkp : (0 : Int) < ((k + 1 : Nat) : Int) := by omega
          go_wp2_with fail
          simp only [bs_append]
          refine (lkText 5 (by omega) _).mono ?_
          rintro e w3 ⟨rfl, hw3⟩
          replace hw3 : Below w.heap.size w w3 := hw2.trans (hw3.mono hw2.size)
          simp only [List.append_assoc, List.cons_append, List.nil_append]
          have hS3 : ¬ 9223372036854775807 < (bs (askN op js (k + 1) ++ [UInt8.ofNat op, UInt8.ofNat jk])).size + (bs [(5 : UInt8)]).size := by rw [bs_size, bs_size]; simp; omega
          go_wp2_with fail
          go_roundg (js.length - (k + 2) + 1)
          case measure => omega
          case rel =>
            refine ⟨k + 2, _, rfl, by omega, rfl, ?_, by go_num, hw3⟩
            rw [bs_append]
            conv => rhs; unfold askN
            rw [HG.out]
            simp
      · have hlt' : decide ((k : Int) < (js.length : Int)) = false := by simp; omega
        have hke : k = js.length := by omega
        have HK : Hid (k = js.length) := hke
        clear hke
        go_wp2_with fail
        go_ret
        refine ⟨?_, hw⟩
        rw [HK.out]; unfold askAll; rw [if_neg HZ.out]; rfl

end Go.Proofs.YtanknpmojblmcaaGreatDoor
