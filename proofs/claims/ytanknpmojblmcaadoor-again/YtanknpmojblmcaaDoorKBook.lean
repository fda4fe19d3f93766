/-
  The book of heads that were written: names out of numbers, the latest head of a name.
-/
import Derived.Test.YtanknpmojblmcaaDoorReadX
import Derived.Test.YtanknpmojblmcaaDoorKFeed
import Derived.Test.YtanknpmojblmcaaDoorKNum
set_option linter.unusedSimpArgs false
set_option linter.unusedVariables false
namespace Go.Proofs.YtanknpmojblmcaaDoor
open Go.RowKit

/-- A head that was written. -/
structure MV where
  batch : Nat
  job : JV
  first : Nat
  count : Nat
  want : List UInt8
  pa : Option Addr
  pn : Nat
  pc : Nat

def mvC (m : MV) : Array Value := #[.int .i64 (m.batch : Int), .string (bs m.job.name), .int .i64 (m.job.nodes : Int), .int .i64 (m.job.time : Int), .bool m.job.arr, .int .i64 (m.job.lo : Int), .int .i64 (m.job.hi : Int), .string (bs m.job.after), .int .i64 (m.first : Int), .int .i64 (m.count : Int), .string (bs m.want), .slice m.pa m.pn m.pc]
def flatM (ms : List MV) : List Value := (ms.map fun h => (mvC h).toList).flatten
theorem flatM_snoc (ms : List MV) (h : MV) : flatM (ms ++ [h]) = flatM ms ++ (mvC h).toList := by simp [flatM]
theorem flatM_get (hs : List MV) : ∀ (k : Nat) (hk : k < hs.length) (j : Nat), j < 12 → (flatM hs)[k * 12 + j]? = (mvC hs[k])[j]? := by
  induction hs with
  | nil => intro k hk; simp at hk
  | cons x r ih =>
    intro k hk j hj
    have e : flatM (x :: r) = (mvC x).toList ++ flatM r := by simp [flatM]
    have hl : (mvC x).toList.length = 12 := by simp [mvC]
    rw [e]
    cases k with
    | zero => rw [List.getElem?_append_left (by omega)]; simp
    | succ k =>
      rw [List.getElem?_append_right (by omega), hl, show (k + 1) * 12 + j - 12 = k * 12 + j from by omega]
      exact ih k (by simpa using hk) j hj

/-- The book: its heads' row, how many batches and jobs. -/
def Bk (b : Nat) (v : Value) (n j : Nat) (w : World) : Prop := w.heap[b]? = some (.cells #[v, .int .i64 (n : Int), .int .i64 (j : Int)] 25 (0, 0))
theorem Bk.c {b : Nat} {v : Value} {n j : Nat} {w : World} (h : Bk b v n j w) (i : Nat) : w.cell? ⟨b, i, none⟩ = (#[v, .int .i64 (n : Int), .int .i64 (j : Int)] : Array Value)[i]? := whole_cell h i
theorem Bk.lt {b : Nat} {v : Value} {n j : Nat} {w : World} (h : Bk b v n j w) : b < w.heap.size := whole_lt h

def Ms (v : Value) (ms : List MV) (w : World) : Prop :=
  (v = .slice none 0 0 ∧ ms = []) ∨ ∃ g cap, v = .slice (some ⟨g, 0, none⟩) ms.length cap ∧ ms.length ≤ cap ∧ g < w.heap.size ∧ ∀ k, (hk : k < ms.length) → ∀ j, j < 12 → w.cell? ⟨g, k * 12 + j, none⟩ = (mvC ms[k])[j]?
theorem Ms.of {w : World} {base : Nat} {v : Value} {hs : List MV} (h : w.ownsRow base 35 12 v hs.length (flatM hs)) : Ms v hs w := by
  rcases h.2 with ⟨hv, hn⟩ | ⟨g, cap, cur, hv, h1, h2, h3, h4, h5, h6⟩
  · exact Or.inl ⟨hv, List.eq_nil_of_length_eq_zero hn⟩
  · right
    subst hv
    refine ⟨g, cap, rfl, h3, whole_lt h2, ?_⟩
    intro k hk j hj
    rw [h.cellAt (k * 12 + j) (by omega)]
    exact flatM_get hs k hk j hj

def nameL : Nat → List UInt8
  | 0 => [97]
  | 1 => [98]
  | 2 => [115, 105, 110, 103, 108, 101]
  | 3 => [99, 99]
  | _ => [111, 107]

set_option maxHeartbeats 1000000 in
theorem letters_any (k : Nat) (hk : k ≤ 100) (w : World) :
    Calls Tryd.prog 9 #[.int .i64 (k : Int)] w fun e w' => e = .returned (.string (bs (nameL (k % 5)))) ∧ Below w.heap.size w w' := by
  go_enter Tryd.func9, Tryd.ntmps9
  go_wp2_with fail
  refine (pick_any k 5 hk (by omega) (by omega) _).mono ?_
  rintro e w1 ⟨rfl, rfl⟩
  have hm : k % 5 < 5 := Nat.mod_lt _ (by omega)
  generalize hkm : k % 5 = m at *
  have HK : Hid (k % 5 = m) := hkm
  clear hkm
  obtain rfl | rfl | rfl | rfl | rfl : m = 0 ∨ m = 1 ∨ m = 2 ∨ m = 3 ∨ m = 4 := by omega
  all_goals
    go_wp2_with fail
    go_ret
    rw [HK.out]
    exact ⟨rfl, (Below.refl _ w).alloc (Nat.le_refl _) _⟩

set_option maxHeartbeats 1000000 in
theorem latest_any (b : Nat) (v : Value) (bn bj : Nat) (ms : List MV) (n : Nat) (nm : List UInt8) (w : World) (hB : Bk b v bn bj w) (hM : Ms v ms w) (hn : n ≤ ms.length) (hl : ms.length ≤ 100) :
    Calls Tryd.prog 27 #[.pointer (some ⟨b, 0, none⟩), .int .i64 (n : Int), .string (bs nm)] w fun e w' => (e = .returned (.int .i64 (-1)) ∨ ∃ (k : Nat) (h : k < ms.length), k < n ∧ ms[k].job.name = nm ∧ e = .returned (.int .i64 (k : Int))) ∧ Below w.heap.size w w' := by
  have hb0 := hB.c 0
  simp at hb0
  go_enter Tryd.func27, Tryd.ntmps27
  go_wp2_with fail
  go_loopg [7] (n + 1) (fun g x wr => ∃ k : Nat, k ≤ n ∧ g = k + 1 ∧ x = .int .i64 ((k : Int) - 1) ∧ Below w.heap.size w wr)
  case atStart => exact ⟨n, Nat.le_refl _, rfl, rfl, Below.refl _ _⟩
  case round =>
    obtain ⟨k, hk, rfl, rfl, hw⟩ := hrel
    have hb1 : wr.cell? ⟨b, 0, none⟩ = some v := (hw.cell hB.lt).trans hb0
    cases k with
    | zero =>
      go_wp2_with fail
      go_ret
      exact ⟨Or.inl rfl, hw⟩
    | succ k =>
      have hge : (0 : Int) ≤ (((k + 1 : Nat) : Int) - 1) := by omega
      rcases hM with ⟨_, rfl⟩ | ⟨g, cap, rfl, hc, hg, hcell⟩
      · simp at hn; omega
      · have hlt : k < ms.length := by omega
        have lk := (hw.cell (p := ⟨g, k * 12 + 1, none⟩) hg).trans (hcell k hlt 1 (by omega))
        simp [mvC] at lk
        have hb2 : ((bs ms[k].job.name).toList == (bs nm).toList) = (ms[k].job.name == nm) := by rw [bs_toList, bs_toList]
        cases he : (ms[k].job.name == nm) with
        | true =>
          rw [he] at hb2
          have HE : Hid (ms[k].job.name = nm) := by show _ = _; simpa using he
          clear he
          go_wp2_with fail
          go_ret
          exact ⟨Or.inr ⟨k, hlt, by omega, HE.out, ret_int (by omega)⟩, hw⟩
        | false =>
          rw [he] at hb2
          clear he
          go_wp2_with fail
          go_roundg (k + 1)
          case measure => omega
          case rel => exact ⟨k, by omega, rfl, by go_num, hw⟩

end Go.Proofs.YtanknpmojblmcaaDoor
