/-
  JobV KFeed KNum KBook KWrD MathS MathT MathX MathY BkP BkQ BkA BkB BkC BkM, put together.
-/
import Derived.Test.YtanknpmojblmcaaGreatDoorSpec3
import Derived.Test.YtanknpmojblmcaaGreatDoorBase
import Derived.Test.YtanknpmojblmcaaGreatDoorSkip
import Derived.IntWalk
import Derived.Test.YtanknpmojblmcaaGreatDoorAsF
import Derived.Test.YtanknpmojblmcaaGreatDoorLimits
import Derived.Deep.RegionHeld3
import Derived.Deep.DrawnRows
import Derived.Test.YtanknpmojblmcaaGreatDoorGb1
import Derived.Test.YtanknpmojblmcaaGreatDoorLkA
import Derived.Deep.AppendLies
import Derived.Deep.RegionLaw
/-
  A job, as api has it.
-/
set_option linter.unusedSimpArgs false
set_option linter.unusedVariables false
namespace Go.Proofs.YtanknpmojblmcaaGreatDoor
open Go.RowKit

/-- A job, as api has it. -/
structure JV where
  name : List UInt8
  nodes : Nat
  time : Nat
  arr : Bool
  lo : Nat
  hi : Nat
  after : List UInt8

def jobOf (h : HV) : JV := ⟨h.name, h.nodes, h.time, h.arr, h.lo, h.hi, h.after⟩
def jvC (h : JV) : Array Value := #[.string (bs h.name), .int .i64 (h.nodes : Int), .int .i64 (h.time : Int), .bool h.arr, .int .i64 (h.lo : Int), .int .i64 (h.hi : Int), .string (bs h.after)]
def jv0 : JV := ⟨[], 0, 0, false, 0, 0, []⟩
def flatJ (hs : List JV) : List Value := (hs.map fun h => (jvC h).toList).flatten
def readJ (L : List UInt8) : List JV := if (readH L).2.1 = 0 then (readH L).1.map jobOf else []

end Go.Proofs.YtanknpmojblmcaaGreatDoor

/-
  A feed's next number; pick; names out of numbers.
-/
set_option linter.unusedSimpArgs false
set_option linter.unusedVariables false
namespace Go.Proofs.YtanknpmojblmcaaGreatDoor
open Go.RowKit

/-- A feed: its bytes, how many are used up. -/
def Fd (b : Nat) (T : ByteArray) (i : Nat) (w : World) : Prop := w.heap[b]? = some (.cells #[.string T, .int .i64 i] 52 (0, 0))
theorem Fd.c0 {b : Nat} {T : ByteArray} {i : Nat} {w : World} (h : Fd b T i w) : w.cell? ⟨b, 0, none⟩ = some (.string T) := by rw [whole_cell h]; rfl
theorem Fd.c1 {b : Nat} {T : ByteArray} {i : Nat} {w : World} (h : Fd b T i w) : w.cell? ⟨b, 1, none⟩ = some (.int .i64 i) := by rw [whole_cell h]; rfl
theorem Fd.z {b : Nat} {T : ByteArray} {i : Nat} {w : World} (h : Fd b T i w) (k : Nat) : w.frozen? ⟨b, k, none⟩ = false := whole_frozen h k
theorem Fd.setAt {b : Nat} {T : ByteArray} {i : Nat} {w : World} (h : Fd b T i w) (j : Nat) {v : Value} (hv : v = .int .i64 j) : Fd b T j (w.setCell ⟨b, 1, none⟩ v) := by
  subst hv; exact whole_set h 1 _
theorem Fd.lt {b : Nat} {T : ByteArray} {i : Nat} {w : World} (h : Fd b T i w) : b < w.heap.size := whole_lt h
theorem Fd.kept {b c : Nat} {T : ByteArray} {i : Nat} {w w' : World} (h : Fd b T i w) (k : Aside c w w') (hc : b ≠ c) : Fd b T i w' := (k.block b (whole_lt h) hc).trans h
theorem Fd.alloc {b : Nat} {T : ByteArray} {i : Nat} {w : World} (h : Fd b T i w) (o : Obj) : Fd b T i (w.alloc o) := whole_alloc h o

set_option maxHeartbeats 400000 in
theorem pick_any (c n : Nat) (hc : c ≤ 100) (hn : 0 < n) (hn2 : n ≤ 100) (w : World) :
    Calls Tryz.prog 6 #[.int .i64 (c : Int), .int .i64 (n : Int)] w fun e w' => e = .returned (.int .i64 ((c % n : Nat) : Int)) ∧ w' = w := by
  have h1 : decide ((c : Int) < 0) = false := by simp
  have h2 : (n : Int) ≠ 0 := by omega
  go_enter Tryz.func6, Tryz.ntmps6
  go_wp2_with fail
  go_ret
  exact ⟨ret_int (by omega), rfl⟩

/-- A feed, whatever it holds. -/
def FdA (b : Nat) (w : World) : Prop := ∃ T i, Fd b T i w ∧ T.size ≤ maxLen ∧ i ≤ T.size
theorem FdA.lt {b : Nat} {w : World} (h : FdA b w) : b < w.heap.size := by obtain ⟨T, i, h, _⟩ := h; exact h.lt
theorem FdA.kept {b c : Nat} {w w' : World} (h : FdA b w) (k : Aside c w w') (hc : b ≠ c) : FdA b w' := by obtain ⟨T, i, h, h2⟩ := h; exact ⟨T, i, h.kept k hc, h2⟩
theorem FdA.block {b : Nat} {w w' : World} (h : FdA b w) (k : w'.heap[b]? = w.heap[b]?) : FdA b w' := by obtain ⟨T, i, h, h2⟩ := h; exact ⟨T, i, k.trans h, h2⟩
theorem FdA.alloc {b : Nat} {w : World} (h : FdA b w) (o : Obj) : FdA b (w.alloc o) := by obtain ⟨T, i, h, h2⟩ := h; exact ⟨T, i, h.alloc o, h2⟩

set_option maxHeartbeats 400000 in
theorem next_any (b n : Nat) (w : World) (h : FdA b w) (hn : 0 < n) (hn2 : n ≤ 100) :
    Calls Tryz.prog 13 #[.pointer (some ⟨b, 0, none⟩), .int .i64 (n : Int)] w fun e w' => ∃ k : Nat, k < n ∧ e = .returned (.int .i64 (k : Int)) ∧ FdA b w' ∧ Aside b w w' := by
  obtain ⟨T, i, h, hT, hi⟩ := h
  have h0 := h.c0; have h1 := h.c1; have hz := h.z 1
  have hm : T.size ≤ 9223372036854775807 := by unfold maxLen at hT; omega
  by_cases hlt : i < T.size
  · have hi' : (i : Int) < (T.size : Int) := by omega
    have hd : decide ((T.size : Int) ≤ (i : Int)) = false := by simp; omega
    have h2 : (n : Int) ≠ 0 := by omega
    go_enter Tryz.func13, Tryz.ntmps13
    go_wp2_with fail
    go_quiet (fail)
    go_wp2_with fail
    go_quiet (fail)
    go_wp2_with fail
    go_ret
    refine ⟨T[i].toNat % n, Nat.mod_lt _ hn, ret_int ?_, ⟨T, i + 1, Fd.setAt (w := w.drewN _) h (i + 1) (by simp), hT, hlt⟩, ((Aside.refl b w).drewN _).setCell (Or.inl rfl) _⟩
    have hb : T[i].toNat < 256 := UInt8.toNat_lt _
    rw [show Go.RowKit.wrap64 (T[i].toNat : Int) = (T[i].toNat : Int) from by unfold Go.RowKit.wrap64; omega]
    rfl
  · have hd : decide ((T.size : Int) ≤ (i : Int)) = true := by simp; omega
    go_enter Tryz.func13, Tryz.ntmps13
    go_wp2_with fail
    go_quiet (fail)
    go_wp2_with fail
    go_ret
    exact ⟨0, hn, rfl, ⟨T, i, h, hT, hi⟩, (Aside.refl b w).drewN _⟩

end Go.Proofs.YtanknpmojblmcaaGreatDoor

/-
  Itoa of a small number; a feed's next number; pick; names out of numbers.
-/
set_option linter.unusedSimpArgs false
set_option linter.unusedVariables false
namespace Go.Proofs.YtanknpmojblmcaaGreatDoor
open Go.RowKit

/-- A number below a hundred, written. -/
def dig2 (n : Nat) : List UInt8 := if n < 10 then [UInt8.ofNat (48 + n)] else [UInt8.ofNat (48 + n / 10), UInt8.ofNat (48 + n % 10)]

def digitsL : List UInt8 := [48, 49, 50, 51, 52, 53, 54, 55, 56, 57, 97, 98, 99, 100, 101, 102, 103, 104, 105, 106, 107, 108, 109, 110, 111, 112, 113, 114, 115, 116, 117, 118, 119, 120, 121, 122]
theorem small_dig : ∀ n, n < 10 → cut digitsL n (n + 1) = dig2 n := by decide
set_option maxRecDepth 100000 in
set_option maxHeartbeats 1000000 in
theorem small_any (n : Nat) (hn : n ≤ 12) (w : World) :
    Calls Tryz.prog 124 #[.int .i64 (n : Int)] w fun e w' => e = .returned (.string (bs (dig2 n))) ∧ w' = w := by
  by_cases h : n < 10
  · have h' : (n : Int) < 10 := by omega
    go_enter Tryz.func124, Tryz.ntmps124
    go_wp2_with fail
    go_ret
    refine ⟨ret_str ?_, rfl⟩
    rw [bs_extract, ← small_dig n h]; rfl
  · have h' : decide ((n : Int) < 10) = false := by simp; omega
    obtain rfl | rfl | rfl : n = 10 ∨ n = 11 ∨ n = 12 := by omega
    all_goals
      go_enter Tryz.func124, Tryz.ntmps124
      go_wp2_with fail
      go_ret
      exact ⟨rfl, rfl⟩

set_option maxHeartbeats 400000 in
theorem formatInt_any (n : Nat) (hn : n ≤ 12) (w : World) :
    Calls Tryz.prog 108 #[.int .i64 (n : Int), .int .i64 10] w fun e w' => e = .returned (.string (bs (dig2 n))) ∧ w' = w := by
  have h1 : (0 : Int) ≤ (n : Int) := by omega
  have h2 : (n : Int) < 100 := by omega
  go_enter Tryz.func108, Tryz.ntmps108
  go_wp2_with fail
  refine (small_any n hn _).mono ?_
  rintro e w1 ⟨rfl, rfl⟩
  go_wp2_with fail
  go_ret
  exact ⟨rfl, rfl⟩
set_option maxHeartbeats 400000 in
theorem iitoa_any (n : Nat) (hn : n ≤ 12) (w : World) :
    Calls Tryz.prog 76 #[.int .i64 (n : Int)] w fun e w' => e = .returned (.string (bs (dig2 n))) ∧ w' = w := by
  go_enter Tryz.func76, Tryz.ntmps76
  go_wp2_with fail
  refine (formatInt_any n hn _).mono ?_
  rintro e w1 ⟨rfl, rfl⟩
  go_wp2_with fail
  go_ret
  exact ⟨rfl, rfl⟩
set_option maxHeartbeats 400000 in
theorem itoa_any (n : Nat) (hn : n ≤ 12) (w : World) :
    Calls Tryz.prog 38 #[.int .i64 (n : Int)] w fun e w' => e = .returned (.string (bs (dig2 n))) ∧ w' = w := by
  go_enter Tryz.func38, Tryz.ntmps38
  go_wp2_with fail
  refine (iitoa_any n hn _).mono ?_
  rintro e w1 ⟨rfl, rfl⟩
  go_wp2_with fail
  go_ret
  exact ⟨rfl, rfl⟩

end Go.Proofs.YtanknpmojblmcaaGreatDoor

/-
  The book of heads that were written: names out of numbers, the latest head of a name.
-/
set_option linter.unusedSimpArgs false
set_option linter.unusedVariables false
namespace Go.Proofs.YtanknpmojblmcaaGreatDoor
open Go.RowKit

/-- A head that was written. -/
structure MV where
  batch : Nat
  job : JV
  first : Nat
  count : Nat
  want : List UInt8
  pa : Option Addr
  pn : Nat
  pc : Nat

def mvC (m : MV) : Array Value := #[.int .i64 (m.batch : Int), .string (bs m.job.name), .int .i64 (m.job.nodes : Int), .int .i64 (m.job.time : Int), .bool m.job.arr, .int .i64 (m.job.lo : Int), .int .i64 (m.job.hi : Int), .string (bs m.job.after), .int .i64 (m.first : Int), .int .i64 (m.count : Int), .string (bs m.want), .slice m.pa m.pn m.pc]
def flatM (ms : List MV) : List Value := (ms.map fun h => (mvC h).toList).flatten
theorem flatM_snoc (ms : List MV) (h : MV) : flatM (ms ++ [h]) = flatM ms ++ (mvC h).toList := by simp [flatM]
theorem flatM_get (hs : List MV) : ∀ (k : Nat) (hk : k < hs.length) (j : Nat), j < 12 → (flatM hs)[k * 12 + j]? = (mvC hs[k])[j]? := by
  induction hs with
  | nil => intro k hk; simp at hk
  | cons x r ih =>
    intro k hk j hj
    have e : flatM (x :: r) = (mvC x).toList ++ flatM r := by simp [flatM]
    have hl : (mvC x).toList.length = 12 := by simp [mvC]
    rw [e]
    cases k with
    | zero => rw [List.getElem?_append_left (by omega)]; simp
    | succ k =>
      rw [List.getElem?_append_right (by omega), hl, show (k + 1) * 12 + j - 12 = k * 12 + j from by omega]
      exact ih k (by simpa using hk) j hj

/-- The book: its heads' row, how many batches and jobs. -/
def Bk (b : Nat) (v : Value) (n j : Nat) (w : World) : Prop := w.heap[b]? = some (.cells #[v, .int .i64 (n : Int), .int .i64 (j : Int)] 25 (0, 0))
theorem Bk.c {b : Nat} {v : Value} {n j : Nat} {w : World} (h : Bk b v n j w) (i : Nat) : w.cell? ⟨b, i, none⟩ = (#[v, .int .i64 (n : Int), .int .i64 (j : Int)] : Array Value)[i]? := whole_cell h i
theorem Bk.lt {b : Nat} {v : Value} {n j : Nat} {w : World} (h : Bk b v n j w) : b < w.heap.size := whole_lt h

def Ms (v : Value) (ms : List MV) (w : World) : Prop :=
  (v = .slice none 0 0 ∧ ms = []) ∨ ∃ g cap, v = .slice (some ⟨g, 0, none⟩) ms.length cap ∧ ms.length ≤ cap ∧ g < w.heap.size ∧ ∀ k, (hk : k < ms.length) → ∀ j, j < 12 → w.cell? ⟨g, k * 12 + j, none⟩ = (mvC ms[k])[j]?
theorem Ms.of {w : World} {base : Nat} {v : Value} {hs : List MV} (h : w.ownsRow base 87 12 v hs.length (flatM hs)) : Ms v hs w := by
  rcases h.2 with ⟨hv, hn⟩ | ⟨g, cap, cur, hv, h1, h2, h3, h4, h5, h6⟩
  · exact Or.inl ⟨hv, List.eq_nil_of_length_eq_zero hn⟩
  · right
    subst hv
    refine ⟨g, cap, rfl, h3, whole_lt h2, ?_⟩
    intro k hk j hj
    rw [h.cellAt (k * 12 + j) (by omega)]
    exact flatM_get hs k hk j hj

def nameL : Nat → List UInt8
  | 0 => [97]
  | 1 => [98]
  | 2 => [115, 105, 110, 103, 108, 101]
  | 3 => [99, 99]
  | _ => [111, 107]

set_option maxHeartbeats 1000000 in
theorem letters_any (k : Nat) (hk : k ≤ 100) (w : World) :
    Calls Tryz.prog 14 #[.int .i64 (k : Int)] w fun e w' => e = .returned (.string (bs (nameL (k % 5)))) ∧ Below w.heap.size w w' := by
  go_enter Tryz.func14, Tryz.ntmps14
  go_wp2_with fail
  refine (pick_any k 5 hk (by omega) (by omega) _).mono ?_
  rintro e w1 ⟨rfl, rfl⟩
  have hm : k % 5 < 5 := Nat.mod_lt _ (by omega)
  generalize hkm : k % 5 = m at *
  have HK : Hid (k % 5 = m) := hkm
  clear hkm
  obtain rfl | rfl | rfl | rfl | rfl : m = 0 ∨ m = 1 ∨ m = 2 ∨ m = 3 ∨ m = 4 := by omega
  all_goals
    go_wp2_with fail
    go_ret
    rw [HK.out]
    exact ⟨rfl, (Below.refl _ w).alloc (Nat.le_refl _) _⟩

set_option maxHeartbeats 1000000 in
theorem latest_any (b : Nat) (v : Value) (bn bj : Nat) (ms : List MV) (n : Nat) (nm : List UInt8) (w : World) (hB : Bk b v bn bj w) (hM : Ms v ms w) (hn : n ≤ ms.length) (hl : ms.length ≤ 100) :
    Calls Tryz.prog 109 #[.pointer (some ⟨b, 0, none⟩), .int .i64 (n : Int), .string (bs nm)] w fun e w' => (e = .returned (.int .i64 (-1)) ∨ ∃ (k : Nat) (h : k < ms.length), k < n ∧ ms[k].job.name = nm ∧ e = .returned (.int .i64 (k : Int))) ∧ Below w.heap.size w w' := by
  have hb0 := hB.c 0
  simp at hb0
  go_enter Tryz.func109, Tryz.ntmps109
  go_wp2_with fail
  go_loopg [7] (n + 1) (fun g x wr => ∃ k : Nat, k ≤ n ∧ g = k + 1 ∧ x = .int .i64 ((k : Int) - 1) ∧ Below w.heap.size w wr)
  case atStart => exact ⟨n, Nat.le_refl _, rfl, rfl, Below.refl _ _⟩
  case round =>
    obtain ⟨k, hk, rfl, rfl, hw⟩ := hrel
    have hb1 : wr.cell? ⟨b, 0, none⟩ = some v := (hw.cell hB.lt).trans hb0
    cases k with
    | zero =>
      go_wp2_with fail
      go_ret
      exact ⟨Or.inl rfl, hw⟩
    | succ k =>
      have hge : (0 : Int) ≤ (((k + 1 : Nat) : Int) - 1) := by omega
      rcases hM with ⟨_, rfl⟩ | ⟨g, cap, rfl, hc, hg, hcell⟩
      · simp at hn; omega
      · have hlt : k < ms.length := by omega
        have lk := (hw.cell (p := ⟨g, k * 12 + 1, none⟩) hg).trans (hcell k hlt 1 (by omega))
        simp [mvC] at lk
        have hb2 : ((bs ms[k].job.name).toList == (bs nm).toList) = (ms[k].job.name == nm) := by rw [bs_toList, bs_toList]
        cases he : (ms[k].job.name == nm) with
        | true =>
          rw [he] at hb2
          have HE : Hid (ms[k].job.name = nm) := by show _ = _; simpa using he
          clear he
          go_wp2_with fail
          go_ret
          exact ⟨Or.inr ⟨k, hlt, by omega, HE.out, ret_int (by omega)⟩, hw⟩
        | false =>
          rw [he] at hb2
          clear he
          go_wp2_with fail
          go_roundg (k + 1)
          case measure => omega
          case rel => exact ⟨k, by omega, rfl, by go_num, hw⟩

end Go.Proofs.YtanknpmojblmcaaGreatDoor

/-
  A head as a line.
-/
set_option linter.unusedSimpArgs false
set_option linter.unusedVariables false
namespace Go.Proofs.YtanknpmojblmcaaGreatDoor
open Go.RowKit

def wr0 (j : JV) : List UInt8 := [35, 74, 32] ++ j.name ++ [32, 110, 111, 100, 101, 115, 61] ++ dig2 j.nodes ++ [32, 116, 105, 109, 101, 61] ++ dig2 j.time
def wrA (j : JV) : List UInt8 := if j.arr = true then wr0 j ++ [32, 97, 114, 114, 97, 121, 61] ++ dig2 j.lo ++ [45] ++ dig2 j.hi else wr0 j
/-- A head's line. -/
def wrL (j : JV) (a : List UInt8) : List UInt8 := if a = [] then wrA j else wrA j ++ [32, 97, 102, 116, 101, 114, 61] ++ a

theorem wr0_bs (j : JV) : (⟨#[35, 74, 32]⟩ ++ bs j.name ++ ⟨#[32, 110, 111, 100, 101, 115, 61]⟩ ++ bs (dig2 j.nodes) ++ ⟨#[32, 116, 105, 109, 101, 61]⟩ ++ bs (dig2 j.time) : ByteArray) = bs (wr0 j) := by
  unfold wr0
  rw [← bs_append, ← bs_append, ← bs_append, ← bs_append, ← bs_append]; rfl
theorem wrA_bs (j : JV) (h : j.arr = true) : (bs (wr0 j) ++ ⟨#[32, 97, 114, 114, 97, 121, 61]⟩ ++ bs (dig2 j.lo) ++ ⟨#[45]⟩ ++ bs (dig2 j.hi) : ByteArray) = bs (wrA j) := by
  unfold wrA
  rw [if_pos h, ← bs_append, ← bs_append, ← bs_append, ← bs_append]; rfl
theorem wrL_bs (j : JV) {a : List UInt8} (h : a ≠ []) : (bs (wrA j) ++ ⟨#[32, 97, 102, 116, 101, 114, 61]⟩ ++ bs a : ByteArray) = bs (wrL j a) := by
  unfold wrL
  rw [if_neg h, ← bs_append, ← bs_append]; rfl
theorem empty_bs {a : List UInt8} (h : a = []) : (!(bs a).toList.isEmpty) = false := by rw [bs_toList, h]; rfl
theorem full_bs {a : List UInt8} (h : a ≠ []) : (!(bs a).toList.isEmpty) = true := by
  rw [bs_toList]
  cases a with
  | nil => exact absurd rfl h
  | cons _ _ => rfl
theorem dig2_len (n : Nat) : (dig2 n).length ≤ 2 := by unfold dig2; split <;> simp

/-- What again asks of a plain form. -/
structure AgainOK (j : JV) (want : List UInt8) : Prop where
  a1 : readJ (wrL j j.after) = [j]
  a2 : (readH (wrL j j.after)).2 = (0, 0)
  b1 : readJ (wrL j ([40, 40] ++ j.after ++ [41, 41])) = [j]
  b2 : (readH (wrL j ([40, 40] ++ j.after ++ [41, 41]))).2 = (0, 0)
  c1 : readJ (wrL j ([40] ++ j.after ++ [41, 124] ++ j.after)) = [{ j with after := j.after ++ [124] ++ j.after }]
  c2 : (readH (wrL j ([40] ++ j.after ++ [41, 124] ++ j.after))).2 = (0, 0)
  len : j.after.length ≤ want.length

end Go.Proofs.YtanknpmojblmcaaGreatDoor

/-
  Plain mathematics: a head's line that is written so is read so.
-/
set_option linter.unusedSimpArgs false
set_option linter.unusedVariables false
namespace Go.Proofs.YtanknpmojblmcaaGreatDoor

/-- The first byte of a text, as a number; 0 of none. -/
def hdb (R : List UInt8) : Nat := (R.head?.map UInt8.toNat).getD 0
def EndL (R : List UInt8) : Prop := R.head? = none ∨ R.head? = some 10
theorem EndL.b {R : List UInt8} (h : EndL R) : hdb R = 0 ∨ hdb R = 10 := by
  rcases h with h | h <;> simp [hdb, h]
theorem byt_hdb {L R : List UInt8} {i : Nat} (h : L.drop i = R) : byt L i = hdb R := byt_head h

theorem lets_of {L R : List UInt8} (hR : letB (hdb R) = false) : ∀ (nm : List UInt8) (n i : Nat), (∀ c ∈ nm, letB c.toNat = true) → nm.length ≤ n → L.drop i = nm ++ R → lets L n i = nm.length
  | [], n, i, _, _, hd => by
    have hb := byt_hdb hd
    cases n with
    | zero => rfl
    | succ n => simp [lets, hb]; simpa using hR
  | c :: nm, n, i, hc, hn, hd => by
    obtain ⟨m, rfl⟩ : ∃ m, n = m + 1 := ⟨n - 1, by simp at hn; omega⟩
    have hb := (byt_drop hd).2.1
    have hl : letB (byt L i) = true := by rw [hb]; exact hc c (by simp)
    have ih := lets_of hR nm m (i + 1) (fun d hd => hc d (by simp [hd])) (by simp at hn; omega) (byt_drop hd).2.2
    simp [lets, hl, ih]
theorem nm_of {L R nm : List UInt8} {i : Nat} (hR : letB (hdb R) = false) (hc : ∀ c ∈ nm, letB c.toNat = true) (h1 : 1 ≤ nm.length) (h6 : nm.length ≤ 6) (hd : L.drop i = nm ++ R) : nmS L (i, false) = (i + nm.length, false) := by
  have e := lets_of hR nm 6 i hc h6 hd
  simp [nmS, e]
  intro q; rw [q] at h1; simp at h1

theorem num_dig {L R : List UInt8} {i n : Nat} (hn : n ≤ 12) (hd : L.drop i = dig2 n ++ R) (hR : digB (hdb R) = false) : numV L (i, false) = n ∧ numS L (i, false) = (i + (dig2 n).length, false) := by
  have key : ∀ (c : UInt8), L.drop i = c :: R → 48 ≤ c.toNat → c.toNat ≤ 57 → numV L (i, false) = c.toNat - 48 ∧ numS L (i, false) = (i + 1, false) := by
    intro c h h1 h2
    have hb : byt L i = c.toNat := (byt_drop h).2.1
    have hb1 : byt L (i + 1) = hdb R := byt_hdb (byt_drop h).2.2
    have d1 : digB (pk L (i, false)) = true := by show digB (byt L i) = true; rw [hb]; simp [digB, h1, h2]
    have d2 : digB (pk L (i + 1, false)) = false := by show digB (byt L (i + 1)) = false; rw [hb1]; exact hR
    have e : pk L (i, false) = c.toNat := hb
    unfold numV numS
    rw [if_pos d1, if_pos d1, if_pos (by simp [d2]), if_pos (by simp [d2]), e]
    exact ⟨rfl, rfl⟩
  have key2 : ∀ (c d : UInt8), L.drop i = c :: d :: R → 49 ≤ c.toNat → c.toNat ≤ 57 → 48 ≤ d.toNat → d.toNat ≤ 57 → numV L (i, false) = 10 * (c.toNat - 48) + (d.toNat - 48) ∧ numS L (i, false) = (i + 2, false) := by
    intro c d h h1 h2 h3 h4
    have hb : byt L i = c.toNat := (byt_drop h).2.1
    have hb1 : byt L (i + 1) = d.toNat := (byt_drop (byt_drop h).2.2).2.1
    have d1 : digB (pk L (i, false)) = true := by show digB (byt L i) = true; rw [hb]; simp [digB]; omega
    have d2 : digB (pk L (i + 1, false)) = true := by show digB (byt L (i + 1)) = true; rw [hb1]; simp [digB, h3, h4]
    have e : pk L (i, false) = c.toNat := hb
    have e1 : pk L (i + 1, false) = d.toNat := hb1
    have d3 : (pk L (i, false) == 48) = false := by rw [e, beq_eq_false_iff_ne]; omega
    unfold numV numS
    rw [if_pos d1, if_pos d1, if_neg (by simp [d2, d3]), if_neg (by simp [d2, d3]), e, e1]
    exact ⟨rfl, rfl⟩
  have hh : n = 0 ∨ n = 1 ∨ n = 2 ∨ n = 3 ∨ n = 4 ∨ n = 5 ∨ n = 6 ∨ n = 7 ∨ n = 8 ∨ n = 9 ∨ n = 10 ∨ n = 11 ∨ n = 12 := by omega
  rcases hh with rfl | rfl | rfl | rfl | rfl | rfl | rfl | rfl | rfl | rfl | rfl | rfl | rfl
  · exact key 48 hd (by decide) (by decide)
  · exact key 49 hd (by decide) (by decide)
  · exact key 50 hd (by decide) (by decide)
  · exact key 51 hd (by decide) (by decide)
  · exact key 52 hd (by decide) (by decide)
  · exact key 53 hd (by decide) (by decide)
  · exact key 54 hd (by decide) (by decide)
  · exact key 55 hd (by decide) (by decide)
  · exact key 56 hd (by decide) (by decide)
  · exact key 57 hd (by decide) (by decide)
  · exact key2 49 48 hd (by decide) (by decide) (by decide) (by decide)
  · exact key2 49 49 hd (by decide) (by decide) (by decide) (by decide)
  · exact key2 49 50 hd (by decide) (by decide) (by decide) (by decide)

/-- A job that can be written. -/
structure JobOK (j : JV) : Prop where
  nm : ∀ c ∈ j.name, letB c.toNat = true
  nm1 : 1 ≤ j.name.length
  nm6 : j.name.length ≤ 6
  nodes : 1 ≤ j.nodes ∧ j.nodes ≤ 8
  time : 1 ≤ j.time ∧ j.time ≤ 12
  arr : j.arr = true → j.lo ≤ j.hi ∧ j.hi < j.lo + 6 ∧ j.hi ≤ 12
  no : j.arr = false → j.lo = 0 ∧ j.hi = 0

/-- A head's line, and the job that it is read as. -/
def HeadLine (t : List UInt8) (jv : JV) : Prop :=
  ∀ L i R, L.drop i = t ++ R → EndL R → seesB L i = true ∧ ∃ hv, headH L (i, false) = (hv, (i + t.length, false)) ∧ jobOf hv = jv

theorem zero_nodig {R : List UInt8} (h : EndL R) : digB (hdb R) = false := by rcases h.b with e | e <;> rw [e] <;> rfl

theorem front {L : List UInt8} {j : JV} {i : Nat} {R : List UInt8} (hj : JobOK j) (hd : L.drop i = wr0 j ++ R) (hR : digB (hdb R) = false) :
    seesB L i = true ∧ hed4 L (i, false) = (i + (wr0 j).length, false) ∧ jobOf (hedV L (i, false)) = { j with arr := false, lo := 0, hi := 0, after := [] } := by
  have d0 : L.drop i = [35, 74, 32] ++ (j.name ++ ([32, 110, 111, 100, 101, 115, 61] ++ (dig2 j.nodes ++ ([32, 116, 105, 109, 101, 61] ++ (dig2 j.time ++ R))))) := by rw [hd]; simp [wr0]
  have d1 := drop_more d0
  have d2 := drop_more d1
  have d3 := drop_more d2
  have d4 := drop_more d3
  have d5 := drop_more d4
  have h1 : hed1 L (i, false) = (i + 3, false) := wd_of [35, 74, 32] _ i (by decide) d0
  have h2 : nmS L (i + 3, false) = (i + 3 + j.name.length, false) := nm_of (by rfl) hj.nm hj.nm1 hj.nm6 d1
  have h3 : hed2 L (i, false) = (i + 3 + j.name.length + 7, false) := by
    unfold hed2; rw [h1, h2]; exact wd_of [32, 110, 111, 100, 101, 115, 61] _ _ (by decide) d2
  have n1 := num_dig (L := L) (i := i + 3 + j.name.length + 7) (n := j.nodes) (by have := hj.nodes; omega) d3 (by rfl)
  have h4 : hed3 L (i, false) = (i + 3 + j.name.length + 7 + (dig2 j.nodes).length + 6, false) := by
    unfold hed3; rw [h3, n1.2]; exact wd_of [32, 116, 105, 109, 101, 61] _ _ (by decide) d4
  have n2 := num_dig (L := L) (i := i + 3 + j.name.length + 7 + (dig2 j.nodes).length + 6) (n := j.time) (by have := hj.time; omega) d5 hR
  refine ⟨?_, ?_, ?_⟩
  · have d0' : L.drop i = 35 :: 74 :: 32 :: (j.name ++ ([32, 110, 111, 100, 101, 115, 61] ++ (dig2 j.nodes ++ ([32, 116, 105, 109, 101, 61] ++ (dig2 j.time ++ R))))) := d0
    have b0 := byt_drop d0'
    have b1 := byt_drop b0.2.2
    have e0 : byt L i = 35 := b0.2.1
    have e1 : byt L (i + 1) = 74 := b1.2.1
    simp [seesB, e0, e1]
  · unfold hed4; rw [h4, n2.2]; simp [wr0]; omega
  · unfold hedV jobOf
    rw [h1, h2, h3, h4]
    simp only
    have ec : cut L (i + 3) (i + 3 + j.name.length) = j.name := cut_of_drop d1
    rw [ec, n1.1, n2.1]

theorem EndL.w {R : List UInt8} (h : EndL R) : StopW R := by
  rcases h with h | h
  · exact Or.inl h
  · exact Or.inr (Or.inr h)
theorem arr_part {L R : List UInt8} {q lo hi : Nat} (h : HV) (h1 : lo ≤ 12) (h2 : hi ≤ 12) (hd : L.drop q = dig2 lo ++ ([45] ++ (dig2 hi ++ R))) (hR : digB (hdb R) = false) :
    ∃ h', arrH L h (q, false) = (h', (q + (dig2 lo).length + 1 + (dig2 hi).length, false)) ∧ jobOf h' = { jobOf h with arr := true, lo := lo, hi := hi } := by
  have d1 := drop_more hd
  have d2 := drop_more d1
  have n1 := num_dig (L := L) (i := q) (n := lo) h1 hd (by rfl)
  have w1 : wd L [45] (q + (dig2 lo).length, false) = (q + (dig2 lo).length + 1, false) := wd_of [45] _ _ (by decide) d1
  have n2 := num_dig (L := L) (i := q + (dig2 lo).length + 1) (n := hi) h2 d2 hR
  refine ⟨{ h with arr := true, arrayAt := q, lo := lo, hi := hi }, ?_, ?_⟩
  · unfold arrH
    rw [n1.1, n1.2, w1, n2.1, n2.2]
  · rfl
theorem aft_part {L R W : List UInt8} {p : List UInt8 × Nat} {q : Nat} (h : HV) (hW : WantP (FacP AtomP 4) W p) (hd : L.drop q = [102, 116, 101, 114, 61] ++ (W ++ R)) (hR : EndL R) :
    ∃ h', aftH L h (q, false) = (h', (q + 5 + W.length, false)) ∧ jobOf h' = { jobOf h with after := p.1 } := by
  have d1 := drop_more hd
  have w1 : wd L [102, 116, 101, 114, 61] (q, false) = (q + 5, false) := wd_of [102, 116, 101, 114, 61] _ _ (by decide) hd
  have w2 : wantF L (fac L 4) (q + 5, false) = (p, (q + 5 + W.length, false)) := reads_want W p L (q + 5) R hW d1 hR.w
  refine ⟨{ h with after := p.1, want := wantQ L (fac L 4) (facQ L 4) (q + 5, false) }, ?_, ?_⟩
  · unfold aftH
    rw [w1, w2]
  · rfl

theorem opt_no {L : List UInt8} {h : HV} {q : Nat} {R : List UInt8} (hd : L.drop q = R) (hR : EndL R) : optH L h (q, false) = (h, (q, false)) := by
  have hs : sk L 32 (q, false) = false := by
    have e := sk_head (c := 32) hd (by decide)
    have e2 : decide (R.head? = some 32) = false := by rcases hR with h | h <;> rw [h] <;> decide
    rw [e2] at e; exact e
  simp [optH, hs]
theorem sk_32 {L R : List UInt8} {q : Nat} (hd : L.drop q = 32 :: R) : sk L 32 (q, false) = true := by
  have e := sk_head (c := 32) hd (by decide)
  simpa using e
theorem opt_arr {L : List UInt8} {q : Nat} {lo hi : Nat} (h : HV) (h1 : lo ≤ 12) (h2 : hi ≤ 12) {R : List UInt8} (hd : L.drop q = [32, 97, 114, 114, 97, 121, 61] ++ (dig2 lo ++ ([45] ++ (dig2 hi ++ R)))) (hR : EndL R) :
    ∃ h', optH L h (q, false) = (h', (q + 7 + (dig2 lo).length + 1 + (dig2 hi).length, false)) ∧ jobOf h' = { jobOf h with arr := true, lo := lo, hi := hi } := by
  have hd' : L.drop q = 32 :: ([97, 114, 114, 97, 121, 61] ++ (dig2 lo ++ ([45] ++ (dig2 hi ++ R)))) := by rw [hd]; rfl
  have s1 := sk_32 hd'
  have d1 : L.drop (q + 1) = [97] ++ ([114, 114, 97, 121, 61] ++ (dig2 lo ++ ([45] ++ (dig2 hi ++ R)))) := (byt_drop (W := L) (k := q) (c := 32) hd).2.2
  have w1 : wd L [97] (q + 1, false) = (q + 2, false) := wd_of [97] _ _ (by decide) d1
  have d2 := drop_more d1
  have p1 : pk L (q + 2, false) = 114 := byt_hdb d2
  have w2 : wd L [114, 114, 97, 121, 61] (q + 2, false) = (q + 7, false) := wd_of [114, 114, 97, 121, 61] _ _ (by decide) d2
  have d3 := drop_more d2
  obtain ⟨h', a1, a2⟩ := arr_part h h1 h2 d3 (zero_nodig hR)
  have a1 : arrH L h (q + 7, false) = (h', (q + 7 + (dig2 lo).length + 1 + (dig2 hi).length, false)) := a1
  have d6 : L.drop (q + 7 + (dig2 lo).length + 1 + (dig2 hi).length) = R := drop_more (drop_more (drop_more d3))
  have s2 : sk L 32 (q + 7 + (dig2 lo).length + 1 + (dig2 hi).length, false) = false := by
    have e := sk_head (c := 32) d6 (by decide)
    have e2 : decide (R.head? = some 32) = false := by rcases hR with h | h <;> rw [h] <;> decide
    rw [e2] at e; exact e
  refine ⟨h', ?_, a2⟩
  unfold optH
  rw [if_pos s1]
  simp only
  rw [w1, if_pos p1, w2, a1]
  simp only
  rw [if_neg (by rw [s2]; decide)]
theorem opt_aft {L : List UInt8} {q : Nat} (h : HV) {R W : List UInt8} {p : List UInt8 × Nat} (hW : WantP (FacP AtomP 4) W p) (hd : L.drop q = [32, 97, 102, 116, 101, 114, 61] ++ (W ++ R)) (hR : EndL R) :
    ∃ h', optH L h (q, false) = (h', (q + 7 + W.length, false)) ∧ jobOf h' = { jobOf h with after := p.1 } := by
  have hd' : L.drop q = 32 :: ([97, 102, 116, 101, 114, 61] ++ (W ++ R)) := by rw [hd]; rfl
  have s1 := sk_32 hd'
  have d1 : L.drop (q + 1) = [97] ++ ([102, 116, 101, 114, 61] ++ (W ++ R)) := (byt_drop (W := L) (k := q) (c := 32) hd).2.2
  have w1 : wd L [97] (q + 1, false) = (q + 2, false) := wd_of [97] _ _ (by decide) d1
  have d2 := drop_more d1
  have p1 : pk L (q + 2, false) = 102 := byt_hdb d2
  obtain ⟨h', a1, a2⟩ := aft_part h hW d2 hR
  have a1 : aftH L h (q + 2, false) = (h', (q + 7 + W.length, false)) := a1
  refine ⟨h', ?_, a2⟩
  unfold optH
  rw [if_pos s1]
  simp only
  rw [w1, if_neg (by rw [p1]; decide)]
  exact a1
theorem opt_both {L : List UInt8} {q : Nat} {lo hi : Nat} (h : HV) (h1 : lo ≤ 12) (h2 : hi ≤ 12) {R W : List UInt8} {p : List UInt8 × Nat} (hW : WantP (FacP AtomP 4) W p)
    (hd : L.drop q = [32, 97, 114, 114, 97, 121, 61] ++ (dig2 lo ++ ([45] ++ (dig2 hi ++ ([32, 97, 102, 116, 101, 114, 61] ++ (W ++ R)))))) (hR : EndL R) :
    ∃ h', optH L h (q, false) = (h', (q + 7 + (dig2 lo).length + 1 + (dig2 hi).length + 7 + W.length, false)) ∧ jobOf h' = { jobOf h with arr := true, lo := lo, hi := hi, after := p.1 } := by
  have hd' : L.drop q = 32 :: ([97, 114, 114, 97, 121, 61] ++ (dig2 lo ++ ([45] ++ (dig2 hi ++ ([32, 97, 102, 116, 101, 114, 61] ++ (W ++ R)))))) := by rw [hd]; rfl
  have s1 := sk_32 hd'
  have d1 : L.drop (q + 1) = [97] ++ ([114, 114, 97, 121, 61] ++ (dig2 lo ++ ([45] ++ (dig2 hi ++ ([32, 97, 102, 116, 101, 114, 61] ++ (W ++ R)))))) := (byt_drop (W := L) (k := q) (c := 32) hd).2.2
  have w1 : wd L [97] (q + 1, false) = (q + 2, false) := wd_of [97] _ _ (by decide) d1
  have d2 := drop_more d1
  have p1 : pk L (q + 2, false) = 114 := byt_hdb d2
  have w2 : wd L [114, 114, 97, 121, 61] (q + 2, false) = (q + 7, false) := wd_of [114, 114, 97, 121, 61] _ _ (by decide) d2
  have d3 := drop_more d2
  obtain ⟨h', a1, a2⟩ := arr_part h h1 h2 d3 (by rfl)
  have a1 : arrH L h (q + 7, false) = (h', (q + 7 + (dig2 lo).length + 1 + (dig2 hi).length, false)) := a1
  have d6 : L.drop (q + 7 + (dig2 lo).length + 1 + (dig2 hi).length) = 32 :: ([97] ++ ([102, 116, 101, 114, 61] ++ (W ++ R))) := drop_more (drop_more (drop_more d3))
  have s2 := sk_32 d6
  have d7 := (byt_drop d6).2.2
  have w3 : wd L [97] (q + 7 + (dig2 lo).length + 1 + (dig2 hi).length + 1, false) = (q + 7 + (dig2 lo).length + 1 + (dig2 hi).length + 2, false) := wd_of [97] _ _ (by decide) d7
  have d8 := drop_more d7
  obtain ⟨h2', b1, b2⟩ := aft_part h' hW d8 hR
  have b1 : aftH L h' (q + 7 + (dig2 lo).length + 1 + (dig2 hi).length + 2, false) = (h2', (q + 7 + (dig2 lo).length + 1 + (dig2 hi).length + 7 + W.length, false)) := b1
  refine ⟨h2', ?_, by rw [b2, a2]⟩
  unfold optH
  rw [if_pos s1]
  simp only
  rw [w1, if_pos p1, w2, a1]
  simp only
  rw [if_pos s2, w3]
  exact b1

/-- A line that is written so is read so. -/
theorem head_line {j : JV} (hj : JobOK j) {W : List UInt8} {P : List UInt8} (hW : (W = [] ∧ P = []) ∨ (W ≠ [] ∧ ∃ k, WantP (FacP AtomP 4) W (P, k))) : HeadLine (wrL j W) { j with after := P } := by
  intro L i R hd hR
  obtain ⟨jn, jno, jt, ja, jl, jh, jaf⟩ := j
  cases ja with
  | false =>
    obtain ⟨rfl, rfl⟩ := hj.no rfl
    rcases hW with ⟨rfl, rfl⟩ | ⟨hne, k, hW⟩
    · have hw : wrL ⟨jn, jno, jt, false, 0, 0, jaf⟩ [] = wr0 ⟨jn, jno, jt, false, 0, 0, jaf⟩ := by simp [wrL, wrA]
      rw [hw] at hd ⊢
      obtain ⟨f1, f2, f3⟩ := front hj hd (zero_nodig hR)
      refine ⟨f1, hedV L (i, false), ?_, f3⟩
      unfold headH
      rw [f2, opt_no (drop_more hd) hR]
    · have hw : wrL ⟨jn, jno, jt, false, 0, 0, jaf⟩ W = wr0 ⟨jn, jno, jt, false, 0, 0, jaf⟩ ++ ([32, 97, 102, 116, 101, 114, 61] ++ W) := by simp [wrL, wrA, hne]
      rw [hw] at hd ⊢
      have hd0 : L.drop i = wr0 ⟨jn, jno, jt, false, 0, 0, jaf⟩ ++ ([32, 97, 102, 116, 101, 114, 61] ++ (W ++ R)) := by rw [hd]; simp
      obtain ⟨f1, f2, f3⟩ := front hj hd0 (by rfl)
      obtain ⟨h', a1, a2⟩ := opt_aft (hedV L (i, false)) hW (drop_more hd0) hR
      refine ⟨f1, h', ?_, by rw [a2, f3]⟩
      unfold headH
      rw [f2, a1]
      simp; omega
  | true =>
    obtain ⟨l1, l2, l3⟩ := hj.arr rfl
    have l1 : jl ≤ jh := l1
    have l3 : jh ≤ 12 := l3
    rcases hW with ⟨rfl, rfl⟩ | ⟨hne, k, hW⟩
    · have hw : wrL ⟨jn, jno, jt, true, jl, jh, jaf⟩ [] = wr0 ⟨jn, jno, jt, true, jl, jh, jaf⟩ ++ ([32, 97, 114, 114, 97, 121, 61] ++ (dig2 jl ++ ([45] ++ dig2 jh))) := by simp [wrL, wrA]
      rw [hw] at hd ⊢
      have hd0 : L.drop i = wr0 ⟨jn, jno, jt, true, jl, jh, jaf⟩ ++ ([32, 97, 114, 114, 97, 121, 61] ++ (dig2 jl ++ ([45] ++ (dig2 jh ++ R)))) := by rw [hd]; simp
      obtain ⟨f1, f2, f3⟩ := front hj hd0 (by rfl)
      obtain ⟨h', a1, a2⟩ := opt_arr (hedV L (i, false)) (by omega) l3 (drop_more hd0) hR
      refine ⟨f1, h', ?_, by rw [a2, f3]⟩
      unfold headH
      rw [f2, a1]
      simp; omega
    · have hw : wrL ⟨jn, jno, jt, true, jl, jh, jaf⟩ W = wr0 ⟨jn, jno, jt, true, jl, jh, jaf⟩ ++ ([32, 97, 114, 114, 97, 121, 61] ++ (dig2 jl ++ ([45] ++ (dig2 jh ++ ([32, 97, 102, 116, 101, 114, 61] ++ W))))) := by simp [wrL, wrA, hne]
      rw [hw] at hd ⊢
      have hd0 : L.drop i = wr0 ⟨jn, jno, jt, true, jl, jh, jaf⟩ ++ ([32, 97, 114, 114, 97, 121, 61] ++ (dig2 jl ++ ([45] ++ (dig2 jh ++ ([32, 97, 102, 116, 101, 114, 61] ++ (W ++ R)))))) := by rw [hd]; simp
      obtain ⟨f1, f2, f3⟩ := front hj hd0 (by rfl)
      obtain ⟨h', a1, a2⟩ := opt_both (hedV L (i, false)) (by omega) l3 hW (drop_more hd0) hR
      refine ⟨f1, h', ?_, by rw [a2, f3]⟩
      unfold headH
      rw [f2, a1]
      simp; omega

end Go.Proofs.YtanknpmojblmcaaGreatDoor

/-
  Plain mathematics: a batch that is written so is read so; what again asks.
-/
set_option linter.unusedSimpArgs false
set_option linter.unusedVariables false
namespace Go.Proofs.YtanknpmojblmcaaGreatDoor

/-- A line that is not looked at. -/
def CmdLine (t : List UInt8) : Prop := (∀ c ∈ t, c ≠ 10) ∧ ∀ L i R, L.drop i = t ++ R → EndL R → seesB L i = false
def LineOK (x : List UInt8 × Option JV) : Prop := (x.2 = none ∧ CmdLine x.1) ∨ ∃ jv, x.2 = some jv ∧ HeadLine x.1 jv

theorem takeW {t R : List UInt8} (h : ∀ c ∈ t, c ≠ 10) (hR : EndL R) : (t ++ R).takeWhile (fun c => c != 10) = t := by
  induction t with
  | nil =>
    cases R with
    | nil => rfl
    | cons c r =>
      rcases hR with q | q
      · simp at q
      · simp at q; subst q; rfl
  | cons c t ih =>
    have := h c (by simp)
    rw [List.cons_append, List.takeWhile_cons_of_pos (by simpa using this), ih (fun d hd => h d (by simp [hd]))]
theorem toNl_of {L t R : List UInt8} {i : Nat} (hd : L.drop i = t ++ R) (h : ∀ c ∈ t, c ≠ 10) (hR : EndL R) : toNl L i = i + t.length := by
  unfold toNl; rw [hd, takeW h hR]

theorem hds_lines {L : List UInt8} : ∀ (l : List (List UInt8 × Option JV)) (i n : Nat) (hs : List HV), l ≠ [] → (∀ x ∈ l, LineOK x) → L.drop i = jnl 10 (l.map Prod.fst) → i ≤ L.length → l.length ≤ n →
    ∃ hs', hdsL L n (i, false) hs = (hs ++ hs', (L.length, false)) ∧ hs'.map jobOf = l.filterMap Prod.snd
  | [], i, n, hs, hne, _, _, _, _ => absurd rfl hne
  | x :: r, i, n, hs, hne, hok, hd, hi, hn => by
    obtain ⟨m, rfl⟩ : ∃ m, n = m + 1 := ⟨n - 1, by simp at hn; omega⟩
    have hd0 : L.drop i = x.1 ++ ptl 10 (r.map Prod.fst) := hd
    have hE : EndL (ptl 10 (r.map Prod.fst)) := by
      cases r with
      | nil => exact Or.inl rfl
      | cons y z => exact Or.inr rfl
    have hline : ∃ hs1, lineH L (i, false) hs = (hs ++ hs1, (i + x.1.length, false)) ∧ hs1.map jobOf = (x.2.map fun j => [j]).getD [] := by
      rcases hok x (by simp) with ⟨e, h1, h2⟩ | ⟨jv, e, h⟩
      · refine ⟨[], ?_, by rw [e]; rfl⟩
        unfold lineH
        rw [if_neg (by simp [h2 L i _ hd0 hE])]
        simp [toNl_of hd0 h1 hE]
      · obtain ⟨q1, hv, q2, q3⟩ := h L i _ hd0 hE
        refine ⟨[hv], ?_, by rw [e]; simp [q3]⟩
        unfold lineH
        rw [if_pos q1, q2]
    obtain ⟨hs1, e1, e2⟩ := hline
    have hd1 := drop_more hd0
    cases r with
    | nil =>
      have hL : i + x.1.length = L.length := by
        rcases drop_len hd0 with q | ⟨q1, q2⟩
        · simpa [ptl] using q
        · have := congrArg List.length hd0
          rw [q1] at this ⊢
          simp [ptl] at this ⊢; omega
      have hs2 : sk L 10 (i + x.1.length, false) = false := by
        have e := sk_head (c := 10) hd1 (by decide)
        simpa [ptl] using e
      refine ⟨hs1, ?_, ?_⟩
      · unfold hdsL
        rw [e1]
        simp only
        rw [hs2, hL]; simp
      · rw [e2]
        cases hx : x.2 with
        | none => simp [hx]
        | some j => simp [hx]
    | cons y z =>
      have hd2 : L.drop (i + x.1.length) = 10 :: jnl 10 ((y :: z).map Prod.fst) := hd1
      have hs2 : sk L 10 (i + x.1.length, false) = true := by
        have e := sk_head (c := 10) hd2 (by decide)
        simpa using e
      have hk := (byt_drop hd2).1
      obtain ⟨hs3, e3, e4⟩ := hds_lines (y :: z) (i + x.1.length + 1) m (hs ++ hs1) (by simp) (fun u hu => hok u (by simp at hu ⊢; right; exact hu)) (byt_drop hd2).2.2 (by omega) (by simp at hn ⊢; omega)
      refine ⟨hs1 ++ hs3, ?_, ?_⟩
      · unfold hdsL
        rw [e1]
        simp only
        rw [hs2, if_pos rfl, e3, List.append_assoc]
      · rw [List.map_append, e2, e4]
        cases hx : x.2 with
        | none => simp [hx]
        | some j => simp [hx]

/-- Numbers that may be. -/
def LimOK (j : JV) : Prop := (1 ≤ j.nodes ∧ j.nodes ≤ 8) ∧ (1 ≤ j.time ∧ j.time ≤ 12) ∧ (j.arr = true → j.lo ≤ j.hi ∧ j.hi < j.lo + 6)
theorem JobOK.lim {j : JV} (h : JobOK j) : LimOK j := ⟨h.nodes, h.time, fun e => ⟨(h.arr e).1, (h.arr e).2.1⟩⟩
theorem bey_ok : ∀ (hs : List HV), (∀ h ∈ hs, LimOK (jobOf h)) → beyH hs = (0, false)
  | [], _ => rfl
  | h :: r, q => by
    have a := q h (by simp)
    obtain ⟨⟨a1, a2⟩, ⟨a3, a4⟩, a5⟩ := a
    have a1 : 1 ≤ h.nodes := a1
    have a2 : h.nodes ≤ 8 := a2
    have a3 : 1 ≤ h.time := a3
    have a4 : h.time ≤ 12 := a4
    have a5 : h.arr = true → h.lo ≤ h.hi ∧ h.hi < h.lo + 6 := a5
    unfold beyH
    rw [if_neg (by omega), if_neg (by omega), if_neg (by intro z; have := a5 z.1; omega)]
    exact bey_ok r (fun x hx => q x (by simp [hx]))
theorem twi_ok : ∀ (hs before : List HV), ((before ++ hs).map (·.name)).Nodup → twiH before hs = (0, false)
  | [], _, _ => rfl
  | h :: r, before, q => by
    unfold twiH
    have hno : before.any (fun g => g.name == h.name) = false := by
      rw [List.any_eq_false]
      intro g hg hq
      have e : g.name = h.name := by simpa using hq
      rw [List.map_append, List.nodup_append] at q
      exact q.2.2 g.name (List.mem_map.2 ⟨g, hg, rfl⟩) h.name (by simp) e
    rw [hno, if_neg (by decide)]
    exact twi_ok r (before ++ [h]) (by simpa using q)

theorem read_lines {L : List UInt8} {l : List (List UInt8 × Option JV)} {js : List JV} (hL : L = jnl 10 (l.map Prod.fst)) (hne : l ≠ []) (hok : ∀ x ∈ l, LineOK x) (hjs : l.filterMap Prod.snd = js) (hj : js ≠ [])
    (hlim : ∀ j ∈ js, LimOK j) (hnd : (js.map (·.name)).Nodup) (hlen : L.length ≤ 600) : readJ L = js ∧ (readH L).2 = (0, 0) := by
  have hnl : l.length ≤ L.length + 1 := by
    have q := ptl_len 10 (l.map Prod.fst)
    cases l with
    | nil => exact absurd rfl hne
    | cons x r =>
      rw [hL]
      have q := ptl_len 10 (r.map Prod.fst)
      simp [jnl] at q ⊢; omega
  obtain ⟨hs', e1, e2⟩ := hds_lines (L := L) l 0 (L.length + 1) [] hne hok (by simpa using hL) (Nat.zero_le _) hnl
  have hjs' : hs'.map jobOf = js := e2.trans hjs
  have hne' : hs' ≠ [] := by
    intro q; rw [q] at hjs'; exact hj hjs'.symm
  have hR : hdsR L = (hs', (L.length, false)) := by
    unfold hdsR
    rw [e1]
    simp
    exact hne'
  have hB : beyH hs' = (0, false) := bey_ok hs' (fun h hh => hlim _ (by rw [← hjs']; exact List.mem_map.2 ⟨h, hh, rfl⟩))
  have hT : twiH [] hs' = (0, false) := by
    refine twi_ok hs' [] ?_
    have : hs'.map (·.name) = js.map (·.name) := by rw [← hjs', List.map_map]; rfl
    rw [List.nil_append, this]; exact hnd
  have hH : readH L = (hs', (0, 0)) := by
    unfold readH
    rw [if_neg (by omega), hR]
    simp [hB, hT]
  constructor
  · unfold readJ
    rw [hH]
    simpa using hjs'
  · rw [hH]

theorem one_line {t : List UInt8} {jv : JV} (h : HeadLine t jv) (hl : LimOK jv) (hlen : t.length ≤ 600) : readJ t = [jv] ∧ (readH t).2 = (0, 0) := by
  refine read_lines (l := [(t, some jv)]) (by simp [jnl, ptl]) (by simp) ?_ rfl (by simp) ?_ (by simp) hlen
  · intro x hx
    simp at hx; subst hx
    exact Or.inr ⟨jv, rfl, h⟩
  · intro j hj
    simp at hj; subst hj; exact hl

theorem wrL_len {j : JV} (hj : JobOK j) (a : List UInt8) : (wrL j a).length ≤ 50 + a.length := by
  have h1 := hj.nm6
  have h2 := dig2_len j.nodes
  have h3 := dig2_len j.time
  have h4 := dig2_len j.lo
  have h5 := dig2_len j.hi
  unfold wrL wrA wr0
  split <;> split <;> simp <;> omega

/-- What again asks, of a head that was read with a want. -/
theorem again_ok {j : JV} {W P : List UInt8} {k : Nat} (hj : JobOK j) (hW : WantP (FacP AtomP 2) W (P, k)) (hl : W.length ≤ 200) (haf : j.after = P) (hne : P ≠ []) : AgainOK j W := by
  obtain ⟨hP, hPl⟩ := plain_stable 2 W.length W (P, k) (Nat.le_refl _) hW
  have hPl : P.length ≤ W.length := hPl
  have hP2 : WantP (FacP AtomP 2) P (P, k) := hP
  have up : ∀ {V : List UInt8} {p : List UInt8 × Nat}, WantP (FacP AtomP 2) V p → WantP (FacP AtomP 3) V p := fun h => h.mono (FacP.up 2)
  have up4 : ∀ {V : List UInt8} {p : List UInt8 × Nat}, WantP (FacP AtomP 3) V p → WantP (FacP AtomP 4) V p := fun h => h.mono (FacP.up 3)
  have f3 : FacP AtomP 3 (40 :: (P ++ [41])) (P, k) := Or.inr ⟨P, rfl, hP2⟩
  have one : ∀ {F : List UInt8 → List UInt8 × Nat → Prop} {V : List UInt8} {p : List UInt8 × Nat}, F V p → TermP F V p := by
    intro F V p h
    exact ⟨[(V, p)], by simp, by intro x hx; simp at hx; subst hx; exact h, by simp [jnl, ptl], by simp [termV]⟩
  have w3 : WantP (FacP AtomP 3) (40 :: (P ++ [41])) (P, k) := (one f3).want
  have f4 : FacP AtomP 4 (40 :: ((40 :: (P ++ [41])) ++ [41])) (P, k) := Or.inr ⟨_, rfl, w3⟩
  have w4 : WantP (FacP AtomP 4) (40 :: ((40 :: (P ++ [41])) ++ [41])) (P, k) := (one f4).want
  have f34 : FacP AtomP 4 (40 :: (P ++ [41])) (P, k) := FacP.up 3 _ _ f3
  have wbar : WantP (FacP AtomP 4) (40 :: (P ++ [41]) ++ 124 :: P) (P ++ [124] ++ P, k + k) := by
    obtain ⟨l, a1, a2, a3, a4⟩ := up4 (up hP2)
    refine ⟨(40 :: (P ++ [41]), (P, k)) :: l, by simp, ?_, ?_, ?_⟩
    · intro x hx
      rcases List.mem_cons.1 hx with rfl | hx
      · exact one f34
      · exact a2 x hx
    · cases l with
      | nil => exact absurd rfl a1
      | cons y z =>
        rw [a3]; simp [jnl, ptl]
    · cases l with
      | nil => exact absurd rfl a1
      | cons y z =>
        have b1 : P = jnl 124 (((y :: z).map Prod.snd).map Prod.fst) := congrArg Prod.fst a4
        have b2 : k = (((y :: z).map Prod.snd).map Prod.snd).sum := congrArg Prod.snd a4
        have e1 : wantV (((40 :: (P ++ [41]), (P, k)) :: y :: z).map Prod.snd) = (P ++ (124 :: jnl 124 (((y :: z).map Prod.snd).map Prod.fst)), k + (((y :: z).map Prod.snd).map Prod.snd).sum) := by
          simp [wantV, jnl, ptl]
        rw [e1, ← b1, ← b2]
        simp
  have ej : { j with after := P } = j := by rw [← haf]
  have lim := hj.lim
  obtain ⟨x1, x2⟩ := one_line (head_line hj (W := P) (P := P) (Or.inr ⟨hne, k, up4 (up hP2)⟩)) lim (by have := wrL_len hj P; omega)
  have ly : (wrL j (40 :: ((40 :: (P ++ [41])) ++ [41]))).length ≤ 600 := by
    have q := wrL_len hj (40 :: ((40 :: (P ++ [41])) ++ [41]))
    have e : (40 :: ((40 :: (P ++ [41])) ++ [41]) : List UInt8).length = P.length + 4 := by simp
    omega
  have lz : (wrL j (40 :: (P ++ [41]) ++ 124 :: P)).length ≤ 600 := by
    have q := wrL_len hj (40 :: (P ++ [41]) ++ 124 :: P)
    have e : (40 :: (P ++ [41]) ++ 124 :: P : List UInt8).length = 2 * P.length + 3 := by simp; omega
    omega
  obtain ⟨y1, y2⟩ := one_line (head_line hj (W := 40 :: ((40 :: (P ++ [41])) ++ [41])) (P := P) (Or.inr ⟨by simp, k, w4⟩)) lim ly
  obtain ⟨z1, z2⟩ := one_line (head_line hj (W := 40 :: (P ++ [41]) ++ 124 :: P) (P := P ++ [124] ++ P) (Or.inr ⟨by simp, k + k, wbar⟩)) lim lz
  rw [ej] at x1 y1
  have e1 : [40, 40] ++ j.after ++ [41, 41] = 40 :: ((40 :: (P ++ [41])) ++ [41]) := by rw [haf]; simp
  have e2 : [40] ++ j.after ++ [41, 124] ++ j.after = 40 :: (P ++ [41]) ++ 124 :: P := by rw [haf]; simp
  refine ⟨?_, ?_, ?_, ?_, ?_, ?_, by rw [haf]; exact hPl⟩
  · rw [haf]; exact x1
  · rw [haf]; exact x2
  · rw [e1]; exact y1
  · rw [e1]; exact y2
  · rw [e2, haf]; exact z1
  · rw [e2]; exact z2

end Go.Proofs.YtanknpmojblmcaaGreatDoor

/-
  Plain mathematics: the steps of a want that is written so.
-/
set_option linter.unusedSimpArgs false
set_option linter.unusedVariables false
namespace Go.Proofs.YtanknpmojblmcaaGreatDoor

/-- A step of a want, its place left aside. -/
abbrev SX := Nat × List UInt8 × Bool × Nat
def nps (y : Stp) : SX := (y.op, y.name, y.nbd, y.num)
def jS (op : Nat) : SX := (op, [], false, 0)
/-- Steps of parts that are joined, from the left. -/
def tlS (op : Nat) : List (List SX) → List SX
  | [] => []
  | s :: r => s ++ jS op :: tlS op r
def jnS (op : Nat) : List (List SX) → List SX
  | [] => []
  | s :: r => s ++ tlS op r

abbrev PX := List UInt8 → List UInt8 × Nat → List SX → Prop
def TermX (F : PX) (W : List UInt8) (p : List UInt8 × Nat) (S : List SX) : Prop :=
  ∃ l : List (List UInt8 × (List UInt8 × Nat) × List SX), l ≠ [] ∧ (∀ x ∈ l, F x.1 x.2.1 x.2.2) ∧ W = jnl 38 (l.map (·.1)) ∧ p = termV (l.map (·.2.1)) ∧ S = jnS 5 (l.map (·.2.2))
def WantX (F : PX) (W : List UInt8) (p : List UInt8 × Nat) (S : List SX) : Prop :=
  ∃ l : List (List UInt8 × (List UInt8 × Nat) × List SX), l ≠ [] ∧ (∀ x ∈ l, TermX F x.1 x.2.1 x.2.2) ∧ W = jnl 124 (l.map (·.1)) ∧ p = wantV (l.map (·.2.1)) ∧ S = jnS 6 (l.map (·.2.2))
/-- An atom and its step. -/
def AtomX (W : List UInt8) (S : List SX) : Prop := LeafA AtomP W ∧ ∀ L i R, L.drop i = W ++ R → StopF R → (leafQ L (i, false)).map nps = S
def FacX : Nat → PX
  | 0, W, p, S => AtomX W S ∧ p = (W, 1)
  | n + 1, W, p, S => (AtomX W S ∧ p = (W, 1)) ∨ ∃ M, W = 40 :: (M ++ [41]) ∧ WantX (FacX n) M p S

theorem TermX.plain {F : PX} {P : List UInt8 → List UInt8 × Nat → Prop} (h : ∀ W p S, F W p S → P W p) {W : List UInt8} {p : List UInt8 × Nat} {S : List SX} (t : TermX F W p S) : TermP P W p := by
  obtain ⟨l, h1, h2, h3, h4, _⟩ := t
  refine ⟨l.map fun x => (x.1, x.2.1), by simpa using h1, ?_, ?_, ?_⟩
  · intro x hx
    obtain ⟨y, hy, rfl⟩ := List.mem_map.mp hx
    exact h _ _ _ (h2 y hy)
  · rw [h3, List.map_map]; rfl
  · rw [h4, List.map_map]; rfl
theorem WantX.plain {F : PX} {P : List UInt8 → List UInt8 × Nat → Prop} (h : ∀ W p S, F W p S → P W p) {W : List UInt8} {p : List UInt8 × Nat} {S : List SX} (t : WantX F W p S) : WantP P W p := by
  obtain ⟨l, h1, h2, h3, h4, _⟩ := t
  refine ⟨l.map fun x => (x.1, x.2.1), by simpa using h1, ?_, ?_, ?_⟩
  · intro x hx
    obtain ⟨y, hy, rfl⟩ := List.mem_map.mp hx
    exact (h2 y hy).plain h
  · rw [h3, List.map_map]; rfl
  · rw [h4, List.map_map]; rfl
theorem FacX.plain : ∀ (n : Nat) (W : List UInt8) (p : List UInt8 × Nat) (S : List SX), FacX n W p S → FacP AtomP n W p := by
  intro n
  induction n with
  | zero => intro W p S h; exact ⟨h.1.1, h.2⟩
  | succ n ih =>
    intro W p S h
    rcases h with h | ⟨M, h1, h2⟩
    · exact Or.inl ⟨h.1.1, h.2⟩
    · exact Or.inr ⟨M, h1, h2.plain ih⟩

/-- What the reader's steps are at such a text. -/
def StepsX (P : PX) (St : List UInt8 → Prop) (G : List UInt8 → Nat × Bool → List Stp) : Prop :=
  ∀ W p S L i R, P W p S → L.drop i = W ++ R → St R → (G L (i, false)).map nps = S

theorem nps_stp (op : Nat) : nps (stp op) = jS op := rfl

theorem steps_termL {P : PX} {F : List UInt8 → Nat × Bool → (List UInt8 × Nat) × (Nat × Bool)} {G : List UInt8 → Nat × Bool → List Stp} (hF : ∀ W p S L i R, P W p S → L.drop i = W ++ R → StopF R → (F L (i, false)).2 = (i + W.length, false)) (hG : StepsX P StopF G) (L R : List UInt8) (hR : StopT R) :
    ∀ (l : List (List UInt8 × (List UInt8 × Nat) × List SX)) (i n : Nat), (∀ x ∈ l, P x.1 x.2.1 x.2.2) → L.drop i = ptl 38 (l.map (·.1)) ++ R → l.length ≤ n → (termLQ L (F L) (G L) n (i, false)).map nps = tlS 5 (l.map (·.2.2))
  | [], i, n, hl, hd, hn => by
    have hs : sk L 38 (i, false) = false := by
      have e := sk_head (c := 38) (R := R) (i := i) (L := L) (by simpa [ptl] using hd) (by decide)
      have e2 : decide (R.head? = some 38) = false := by
        rcases hR with h | h | h | h <;> rw [h] <;> decide
      rw [e2] at e; exact e
    rw [termLQ_no hs]; rfl
  | x :: r, i, n, hl, hd, hn => by
    have hd0 : L.drop i = 38 :: (x.1 ++ (ptl 38 (r.map (·.1)) ++ R)) := by rw [hd]; simp [ptl]
    have hs : sk L 38 (i, false) = true := by
      have e := sk_head (c := 38) hd0 (by decide)
      simpa using e
    obtain ⟨m, rfl⟩ : ∃ m, n = m + 1 := ⟨n - 1, by simp at hn; omega⟩
    have hd1 := (byt_drop hd0).2.2
    have hst : StopF (ptl 38 (r.map (·.1)) ++ R) := by
      cases r with
      | nil => simpa [ptl] using hR.f
      | cons y z => exact Or.inr (Or.inl rfl)
    have hx := hF _ _ _ L (i + 1) _ (hl x (by simp)) hd1 hst
    have hy := hG _ _ _ L (i + 1) _ (hl x (by simp)) hd1 hst
    have hd2 := drop_more hd1
    have ih := steps_termL hF hG L R hR r (i + 1 + x.1.length) m (fun y hy => hl y (by simp [hy])) hd2 (by simp at hn; omega)
    rw [termLQ_yes hs]
    simp only
    rw [hx, List.map_append, List.map_cons, hy, ih]
    rfl
theorem steps_term {P : PX} {F : List UInt8 → Nat × Bool → (List UInt8 × Nat) × (Nat × Bool)} {G : List UInt8 → Nat × Bool → List Stp} (hF : ∀ W p S L i R, P W p S → L.drop i = W ++ R → StopF R → (F L (i, false)).2 = (i + W.length, false)) (hG : StepsX P StopF G) : StepsX (TermX P) StopT (fun L => termQ L (F L) (G L)) := by
  intro W p S L i R hT hd hR
  obtain ⟨l, h1, h2, h3, h4, h5⟩ := hT
  cases l with
  | nil => exact absurd rfl h1
  | cons x r =>
    have hd0 : L.drop i = x.1 ++ (ptl 38 (r.map (·.1)) ++ R) := by rw [hd, h3]; simp [jnl]
    have hst : StopF (ptl 38 (r.map (·.1)) ++ R) := by
      cases r with
      | nil => simpa [ptl] using hR.f
      | cons y z => exact Or.inr (Or.inl rfl)
    have hx := hF _ _ _ L i _ (h2 x (by simp)) hd0 hst
    have hy := hG _ _ _ L i _ (h2 x (by simp)) hd0 hst
    have hd1 := drop_more hd0
    have hlen : r.length ≤ L.length := by
      have q := ptl_len 38 (r.map (·.1))
      rcases drop_len hd1 with e | ⟨e, _⟩
      · simp at q e ⊢; omega
      · rw [e] at q; simp at q; rw [q]; simp
    have := steps_termL hF hG L R hR r (i + x.1.length) L.length (fun u hu => h2 u (by simp [hu])) hd1 hlen
    show (termQ L (F L) (G L) (i, false)).map nps = S
    unfold termQ
    rw [List.map_append, hx, hy, this, h5]
    rfl
theorem steps_wantL {P : PX} {F : List UInt8 → Nat × Bool → (List UInt8 × Nat) × (Nat × Bool)} {G : List UInt8 → Nat × Bool → List Stp} (hF : ∀ W p S L i R, P W p S → L.drop i = W ++ R → StopT R → (termF L (F L) (i, false)).2 = (i + W.length, false)) (hG : StepsX P StopT (fun L => termQ L (F L) (G L))) (L R : List UInt8) (hR : StopW R) :
    ∀ (l : List (List UInt8 × (List UInt8 × Nat) × List SX)) (i n : Nat), (∀ x ∈ l, P x.1 x.2.1 x.2.2) → L.drop i = ptl 124 (l.map (·.1)) ++ R → l.length ≤ n → (wantLQ L (F L) (G L) n (i, false)).map nps = tlS 6 (l.map (·.2.2))
  | [], i, n, hl, hd, hn => by
    have hs : sk L 124 (i, false) = false := by
      have e := sk_head (c := 124) (R := R) (i := i) (L := L) (by simpa [ptl] using hd) (by decide)
      have e2 : decide (R.head? = some 124) = false := by
        rcases hR with h | h | h <;> rw [h] <;> decide
      rw [e2] at e; exact e
    rw [wantLQ_no hs]; rfl
  | x :: r, i, n, hl, hd, hn => by
    have hd0 : L.drop i = 124 :: (x.1 ++ (ptl 124 (r.map (·.1)) ++ R)) := by rw [hd]; simp [ptl]
    have hs : sk L 124 (i, false) = true := by
      have e := sk_head (c := 124) hd0 (by decide)
      simpa using e
    obtain ⟨m, rfl⟩ : ∃ m, n = m + 1 := ⟨n - 1, by simp at hn; omega⟩
    have hd1 := (byt_drop hd0).2.2
    have hst : StopT (ptl 124 (r.map (·.1)) ++ R) := by
      cases r with
      | nil => simpa [ptl] using hR.t
      | cons y z => exact Or.inr (Or.inl rfl)
    have hx := hF _ _ _ L (i + 1) _ (hl x (by simp)) hd1 hst
    have hy : (termQ L (F L) (G L) (i + 1, false)).map nps = _ := hG _ _ _ L (i + 1) _ (hl x (by simp)) hd1 hst
    have hd2 := drop_more hd1
    have ih := steps_wantL hF hG L R hR r (i + 1 + x.1.length) m (fun y hy => hl y (by simp [hy])) hd2 (by simp at hn; omega)
    rw [wantLQ_yes hs]
    simp only
    rw [hx, List.map_append, List.map_cons, hy, ih]
    rfl
theorem steps_want {P : PX} {Q : List UInt8 → List UInt8 × Nat → Prop} {F : List UInt8 → Nat × Bool → (List UInt8 × Nat) × (Nat × Bool)} {G : List UInt8 → Nat × Bool → List Stp} (hP : ∀ W p S, P W p S → Q W p) (hF : Reads Q StopF F) (hG : StepsX P StopF G) : StepsX (WantX P) StopW (fun L => wantQ L (F L) (G L)) := by
  have hF1 : ∀ W p S L i R, P W p S → L.drop i = W ++ R → StopF R → (F L (i, false)).2 = (i + W.length, false) := fun W p S L i R h1 h2 h3 => by rw [hF W p L i R (hP _ _ _ h1) h2 h3]
  have hT := steps_term hF1 hG
  have hF2 : ∀ W p S L i R, TermX P W p S → L.drop i = W ++ R → StopT R → (termF L (F L) (i, false)).2 = (i + W.length, false) := by
    intro W p S L i R h1 h2 h3
    have : termF L (F L) (i, false) = _ := reads_termF hF W p L i R (h1.plain hP) h2 h3
    rw [this]
  intro W p S L i R hW hd hR
  obtain ⟨l, h1, h2, h3, h4, h5⟩ := hW
  cases l with
  | nil => exact absurd rfl h1
  | cons x r =>
    have hd0 : L.drop i = x.1 ++ (ptl 124 (r.map (·.1)) ++ R) := by rw [hd, h3]; simp [jnl]
    have hst : StopT (ptl 124 (r.map (·.1)) ++ R) := by
      cases r with
      | nil => simpa [ptl] using hR.t
      | cons y z => exact Or.inr (Or.inl rfl)
    have hx := hF2 _ _ _ L i _ (h2 x (by simp)) hd0 hst
    have hy : (termQ L (F L) (G L) (i, false)).map nps = _ := hT _ _ _ L i _ (h2 x (by simp)) hd0 hst
    have hd1 := drop_more hd0
    have hlen : r.length ≤ L.length := by
      have q := ptl_len 124 (r.map (·.1))
      rcases drop_len hd1 with e | ⟨e, _⟩
      · simp at q e ⊢; omega
      · rw [e] at q; simp at q; rw [q]; simp
    have := steps_wantL hF2 hT L R hR r (i + x.1.length) L.length (fun u hu => h2 u (by simp [hu])) hd1 hlen
    show (wantQ L (F L) (G L) (i, false)).map nps = S
    unfold wantQ
    rw [List.map_append, hx, hy, this, h5]
    rfl
theorem steps_fac (n : Nat) : StepsX (FacX n) StopF (fun L => facQ L n) := by
  have leaf : ∀ W S L i R, AtomX W S → L.drop i = W ++ R → StopF R → pk L (i, false) ≠ 40 ∧ (leafQ L (i, false)).map nps = S := by
    intro W S L i R h hd hR
    obtain ⟨⟨_, h1, h2, h3⟩, h4⟩ := h
    refine ⟨?_, h4 L i R hd hR⟩
    have hb := byt_head hd
    show byt L i ≠ 40
    rw [hb]
    cases W with
    | nil => exact absurd rfl h1
    | cons c r =>
      simp at h2 ⊢
      exact fun q => h2 (UInt8.toNat_inj.1 q)
  induction n with
  | zero =>
    intro W p S L i R h hd hR
    obtain ⟨q1, q2⟩ := leaf W S L i R h.1 hd hR
    show (facQ L 0 (i, false)).map nps = _
    unfold facQ
    rw [if_neg q1]; exact q2
  | succ n ih =>
    intro W p S L i R h hd hR
    show (facQ L (n + 1) (i, false)).map nps = _
    rcases h with h | ⟨M, rfl, hM⟩
    · obtain ⟨q1, q2⟩ := leaf W S L i R h.1 hd hR
      unfold facQ
      rw [if_neg q1]; exact q2
    · have hd0 : L.drop i = 40 :: (M ++ (41 :: R)) := by rw [hd]; simp
      have hb : byt L i = 40 := byt_head hd0
      have hd1 := (byt_drop hd0).2.2
      have hw : (wantQ L (fac L n) (facQ L n) (i + 1, false)).map nps = _ := steps_want (FacX.plain n) (reads_fac n) ih M p S L (i + 1) _ hM hd1 (Or.inr (Or.inl rfl))
      have h40 : wd L [40] (i, false) = (i + 1, false) := wd_of [40] (M ++ (41 :: R)) i (by simp) hd0
      unfold facQ
      rw [if_pos (by show byt L i = 40; exact hb), h40, hw]
theorem steps_all (n : Nat) : StepsX (WantX (FacX n)) StopW (fun L => wantQ L (fac L n) (facQ L n)) := steps_want (FacX.plain n) (reads_fac n) (steps_fac n)
theorem TermX.mono {F G : PX} (h : ∀ W p S, F W p S → G W p S) {W : List UInt8} {p : List UInt8 × Nat} {S : List SX} (t : TermX F W p S) : TermX G W p S := by
  obtain ⟨l, h1, h2, h3⟩ := t
  exact ⟨l, h1, fun x hx => h _ _ _ (h2 x hx), h3⟩
theorem WantX.mono {F G : PX} (h : ∀ W p S, F W p S → G W p S) {W : List UInt8} {p : List UInt8 × Nat} {S : List SX} (t : WantX F W p S) : WantX G W p S := by
  obtain ⟨l, h1, h2, h3⟩ := t
  exact ⟨l, h1, fun x hx => (h2 x hx).mono h, h3⟩
theorem FacX.up : ∀ (n : Nat) (W : List UInt8) (p : List UInt8 × Nat) (S : List SX), FacX n W p S → FacX (n + 1) W p S := by
  intro n
  induction n with
  | zero => intro W p S h; exact Or.inl h
  | succ n ih =>
    intro W p S h
    rcases h with h | ⟨M, h1, h2⟩
    · exact Or.inl h
    · exact Or.inr ⟨M, h1, h2.mono ih⟩
end Go.Proofs.YtanknpmojblmcaaGreatDoor

/-
  Plain mathematics: a head and its steps, and all heads of a batch.
-/
set_option linter.unusedSimpArgs false
set_option linter.unusedVariables false
namespace Go.Proofs.YtanknpmojblmcaaGreatDoor

/-- A head's line, the job that it is read as, and its steps. -/
def HeadLineX (t : List UInt8) (jv : JV) (S : List SX) : Prop :=
  ∀ L i R, L.drop i = t ++ R → EndL R → seesB L i = true ∧ ∃ hv, headH L (i, false) = (hv, (i + t.length, false)) ∧ jobOf hv = jv ∧ hv.want.map nps = S

theorem arr_partX {L R : List UInt8} {q lo hi : Nat} (h : HV) (h1 : lo ≤ 12) (h2 : hi ≤ 12) (hd : L.drop q = dig2 lo ++ ([45] ++ (dig2 hi ++ R))) (hR : digB (hdb R) = false) :
    ∃ h', arrH L h (q, false) = (h', (q + (dig2 lo).length + 1 + (dig2 hi).length, false)) ∧ jobOf h' = { jobOf h with arr := true, lo := lo, hi := hi } ∧ h'.want = h.want := by
  have d1 := drop_more hd
  have d2 := drop_more d1
  have n1 := num_dig (L := L) (i := q) (n := lo) h1 hd (by rfl)
  have w1 : wd L [45] (q + (dig2 lo).length, false) = (q + (dig2 lo).length + 1, false) := wd_of [45] _ _ (by decide) d1
  have n2 := num_dig (L := L) (i := q + (dig2 lo).length + 1) (n := hi) h2 d2 hR
  refine ⟨{ h with arr := true, arrayAt := q, lo := lo, hi := hi }, ?_, ?_, rfl⟩
  · unfold arrH
    rw [n1.1, n1.2, w1, n2.1, n2.2]
  · rfl
theorem aft_partX {L R W : List UInt8} {p : List UInt8 × Nat} {q : Nat} {S : List SX} (h : HV) (hX : WantX (FacX 4) W p S) (hd : L.drop q = [102, 116, 101, 114, 61] ++ (W ++ R)) (hR : EndL R) :
    ∃ h', aftH L h (q, false) = (h', (q + 5 + W.length, false)) ∧ jobOf h' = { jobOf h with after := p.1 } ∧ h'.want.map nps = S := by
  have hW := hX.plain (FacX.plain 4)
  have d1 := drop_more hd
  have w1 : wd L [102, 116, 101, 114, 61] (q, false) = (q + 5, false) := wd_of [102, 116, 101, 114, 61] _ _ (by decide) hd
  have w2 : wantF L (fac L 4) (q + 5, false) = (p, (q + 5 + W.length, false)) := reads_want W p L (q + 5) R hW d1 hR.w
  refine ⟨{ h with after := p.1, want := wantQ L (fac L 4) (facQ L 4) (q + 5, false) }, ?_, ?_, steps_all 4 W p S L (q + 5) R hX d1 hR.w⟩
  · unfold aftH
    rw [w1, w2]
  · rfl

theorem opt_arrX {L : List UInt8} {q : Nat} {lo hi : Nat} (h : HV) (h1 : lo ≤ 12) (h2 : hi ≤ 12) {R : List UInt8} (hd : L.drop q = [32, 97, 114, 114, 97, 121, 61] ++ (dig2 lo ++ ([45] ++ (dig2 hi ++ R)))) (hR : EndL R) :
    ∃ h', optH L h (q, false) = (h', (q + 7 + (dig2 lo).length + 1 + (dig2 hi).length, false)) ∧ jobOf h' = { jobOf h with arr := true, lo := lo, hi := hi } ∧ h'.want = h.want := by
  have hd' : L.drop q = 32 :: ([97, 114, 114, 97, 121, 61] ++ (dig2 lo ++ ([45] ++ (dig2 hi ++ R)))) := by rw [hd]; rfl
  have s1 := sk_32 hd'
  have d1 : L.drop (q + 1) = [97] ++ ([114, 114, 97, 121, 61] ++ (dig2 lo ++ ([45] ++ (dig2 hi ++ R)))) := (byt_drop (W := L) (k := q) (c := 32) hd).2.2
  have w1 : wd L [97] (q + 1, false) = (q + 2, false) := wd_of [97] _ _ (by decide) d1
  have d2 := drop_more d1
  have p1 : pk L (q + 2, false) = 114 := byt_hdb d2
  have w2 : wd L [114, 114, 97, 121, 61] (q + 2, false) = (q + 7, false) := wd_of [114, 114, 97, 121, 61] _ _ (by decide) d2
  have d3 := drop_more d2
  obtain ⟨h', a1, a2, a3⟩ := arr_partX h h1 h2 d3 (zero_nodig hR)
  have a1 : arrH L h (q + 7, false) = (h', (q + 7 + (dig2 lo).length + 1 + (dig2 hi).length, false)) := a1
  have d6 : L.drop (q + 7 + (dig2 lo).length + 1 + (dig2 hi).length) = R := drop_more (drop_more (drop_more d3))
  have s2 : sk L 32 (q + 7 + (dig2 lo).length + 1 + (dig2 hi).length, false) = false := by
    have e := sk_head (c := 32) d6 (by decide)
    have e2 : decide (R.head? = some 32) = false := by rcases hR with h | h <;> rw [h] <;> decide
    rw [e2] at e; exact e
  refine ⟨h', ?_, a2, a3⟩
  unfold optH
  rw [if_pos s1]
  simp only
  rw [w1, if_pos p1, w2, a1]
  simp only
  rw [if_neg (by rw [s2]; decide)]
theorem opt_aftX {L : List UInt8} {q : Nat} (h : HV) {R W : List UInt8} {p : List UInt8 × Nat} {S : List SX} (hW : WantX (FacX 4) W p S) (hd : L.drop q = [32, 97, 102, 116, 101, 114, 61] ++ (W ++ R)) (hR : EndL R) :
    ∃ h', optH L h (q, false) = (h', (q + 7 + W.length, false)) ∧ jobOf h' = { jobOf h with after := p.1 } ∧ h'.want.map nps = S := by
  have hd' : L.drop q = 32 :: ([97, 102, 116, 101, 114, 61] ++ (W ++ R)) := by rw [hd]; rfl
  have s1 := sk_32 hd'
  have d1 : L.drop (q + 1) = [97] ++ ([102, 116, 101, 114, 61] ++ (W ++ R)) := (byt_drop (W := L) (k := q) (c := 32) hd).2.2
  have w1 : wd L [97] (q + 1, false) = (q + 2, false) := wd_of [97] _ _ (by decide) d1
  have d2 := drop_more d1
  have p1 : pk L (q + 2, false) = 102 := byt_hdb d2
  obtain ⟨h', a1, a2, a3⟩ := aft_partX h hW d2 hR
  have a1 : aftH L h (q + 2, false) = (h', (q + 7 + W.length, false)) := a1
  refine ⟨h', ?_, a2, a3⟩
  unfold optH
  rw [if_pos s1]
  simp only
  rw [w1, if_neg (by rw [p1]; decide)]
  exact a1
theorem opt_bothX {L : List UInt8} {q : Nat} {lo hi : Nat} (h : HV) (h1 : lo ≤ 12) (h2 : hi ≤ 12) {R W : List UInt8} {p : List UInt8 × Nat} {S : List SX} (hW : WantX (FacX 4) W p S)
    (hd : L.drop q = [32, 97, 114, 114, 97, 121, 61] ++ (dig2 lo ++ ([45] ++ (dig2 hi ++ ([32, 97, 102, 116, 101, 114, 61] ++ (W ++ R)))))) (hR : EndL R) :
    ∃ h', optH L h (q, false) = (h', (q + 7 + (dig2 lo).length + 1 + (dig2 hi).length + 7 + W.length, false)) ∧ jobOf h' = { jobOf h with arr := true, lo := lo, hi := hi, after := p.1 } ∧ h'.want.map nps = S := by
  have hd' : L.drop q = 32 :: ([97, 114, 114, 97, 121, 61] ++ (dig2 lo ++ ([45] ++ (dig2 hi ++ ([32, 97, 102, 116, 101, 114, 61] ++ (W ++ R)))))) := by rw [hd]; rfl
  have s1 := sk_32 hd'
  have d1 : L.drop (q + 1) = [97] ++ ([114, 114, 97, 121, 61] ++ (dig2 lo ++ ([45] ++ (dig2 hi ++ ([32, 97, 102, 116, 101, 114, 61] ++ (W ++ R)))))) := (byt_drop (W := L) (k := q) (c := 32) hd).2.2
  have w1 : wd L [97] (q + 1, false) = (q + 2, false) := wd_of [97] _ _ (by decide) d1
  have d2 := drop_more d1
  have p1 : pk L (q + 2, false) = 114 := byt_hdb d2
  have w2 : wd L [114, 114, 97, 121, 61] (q + 2, false) = (q + 7, false) := wd_of [114, 114, 97, 121, 61] _ _ (by decide) d2
  have d3 := drop_more d2
  obtain ⟨h', a1, a2, a3⟩ := arr_partX h h1 h2 d3 (by rfl)
  have a1 : arrH L h (q + 7, false) = (h', (q + 7 + (dig2 lo).length + 1 + (dig2 hi).length, false)) := a1
  have d6 : L.drop (q + 7 + (dig2 lo).length + 1 + (dig2 hi).length) = 32 :: ([97] ++ ([102, 116, 101, 114, 61] ++ (W ++ R))) := drop_more (drop_more (drop_more d3))
  have s2 := sk_32 d6
  have d7 := (byt_drop d6).2.2
  have w3 : wd L [97] (q + 7 + (dig2 lo).length + 1 + (dig2 hi).length + 1, false) = (q + 7 + (dig2 lo).length + 1 + (dig2 hi).length + 2, false) := wd_of [97] _ _ (by decide) d7
  have d8 := drop_more d7
  obtain ⟨h2', b1, b2, b3⟩ := aft_partX h' hW d8 hR
  have b1 : aftH L h' (q + 7 + (dig2 lo).length + 1 + (dig2 hi).length + 2, false) = (h2', (q + 7 + (dig2 lo).length + 1 + (dig2 hi).length + 7 + W.length, false)) := b1
  refine ⟨h2', ?_, by rw [b2, a2], b3⟩
  unfold optH
  rw [if_pos s1]
  simp only
  rw [w1, if_pos p1, w2, a1]
  simp only
  rw [if_pos s2, w3]
  exact b1

theorem head_lineX {j : JV} (hj : JobOK j) {W : List UInt8} {P : List UInt8} {S : List SX} (hW : (W = [] ∧ P = [] ∧ S = []) ∨ (W ≠ [] ∧ ∃ k, WantX (FacX 4) W (P, k) S)) : HeadLineX (wrL j W) { j with after := P } S := by
  intro L i R hd hR
  obtain ⟨jn, jno, jt, ja, jl, jh, jaf⟩ := j
  cases ja with
  | false =>
    obtain ⟨rfl, rfl⟩ := hj.no rfl
    rcases hW with ⟨rfl, rfl, rfl⟩ | ⟨hne, k, hW⟩
    · have hw : wrL ⟨jn, jno, jt, false, 0, 0, jaf⟩ [] = wr0 ⟨jn, jno, jt, false, 0, 0, jaf⟩ := by simp [wrL, wrA]
      rw [hw] at hd ⊢
      obtain ⟨f1, f2, f3⟩ := front hj hd (zero_nodig hR)
      refine ⟨f1, hedV L (i, false), ?_, f3, rfl⟩
      unfold headH
      rw [f2, opt_no (drop_more hd) hR]
    · have hw : wrL ⟨jn, jno, jt, false, 0, 0, jaf⟩ W = wr0 ⟨jn, jno, jt, false, 0, 0, jaf⟩ ++ ([32, 97, 102, 116, 101, 114, 61] ++ W) := by simp [wrL, wrA, hne]
      rw [hw] at hd ⊢
      have hd0 : L.drop i = wr0 ⟨jn, jno, jt, false, 0, 0, jaf⟩ ++ ([32, 97, 102, 116, 101, 114, 61] ++ (W ++ R)) := by rw [hd]; simp
      obtain ⟨f1, f2, f3⟩ := front hj hd0 (by rfl)
      obtain ⟨h', a1, a2, a3⟩ := opt_aftX (hedV L (i, false)) hW (drop_more hd0) hR
      refine ⟨f1, h', ?_, by rw [a2, f3], a3⟩
      unfold headH
      rw [f2, a1]
      simp; omega
  | true =>
    obtain ⟨l1, l2, l3⟩ := hj.arr rfl
    have l1 : jl ≤ jh := l1
    have l3 : jh ≤ 12 := l3
    rcases hW with ⟨rfl, rfl, rfl⟩ | ⟨hne, k, hW⟩
    · have hw : wrL ⟨jn, jno, jt, true, jl, jh, jaf⟩ [] = wr0 ⟨jn, jno, jt, true, jl, jh, jaf⟩ ++ ([32, 97, 114, 114, 97, 121, 61] ++ (dig2 jl ++ ([45] ++ dig2 jh))) := by simp [wrL, wrA]
      rw [hw] at hd ⊢
      have hd0 : L.drop i = wr0 ⟨jn, jno, jt, true, jl, jh, jaf⟩ ++ ([32, 97, 114, 114, 97, 121, 61] ++ (dig2 jl ++ ([45] ++ (dig2 jh ++ R)))) := by rw [hd]; simp
      obtain ⟨f1, f2, f3⟩ := front hj hd0 (by rfl)
      obtain ⟨h', a1, a2, a3⟩ := opt_arrX (hedV L (i, false)) (by omega) l3 (drop_more hd0) hR
      refine ⟨f1, h', ?_, by rw [a2, f3], by rw [a3]; rfl⟩
      unfold headH
      rw [f2, a1]
      simp; omega
    · have hw : wrL ⟨jn, jno, jt, true, jl, jh, jaf⟩ W = wr0 ⟨jn, jno, jt, true, jl, jh, jaf⟩ ++ ([32, 97, 114, 114, 97, 121, 61] ++ (dig2 jl ++ ([45] ++ (dig2 jh ++ ([32, 97, 102, 116, 101, 114, 61] ++ W))))) := by simp [wrL, wrA, hne]
      rw [hw] at hd ⊢
      have hd0 : L.drop i = wr0 ⟨jn, jno, jt, true, jl, jh, jaf⟩ ++ ([32, 97, 114, 114, 97, 121, 61] ++ (dig2 jl ++ ([45] ++ (dig2 jh ++ ([32, 97, 102, 116, 101, 114, 61] ++ (W ++ R)))))) := by rw [hd]; simp
      obtain ⟨f1, f2, f3⟩ := front hj hd0 (by rfl)
      obtain ⟨h', a1, a2, a3⟩ := opt_bothX (hedV L (i, false)) (by omega) l3 hW (drop_more hd0) hR
      refine ⟨f1, h', ?_, by rw [a2, f3], a3⟩
      unfold headH
      rw [f2, a1]
      simp; omega

def LineX (x : List UInt8 × Option (JV × List SX)) : Prop := (x.2 = none ∧ CmdLine x.1) ∨ ∃ jv, x.2 = some jv ∧ HeadLineX x.1 jv.1 jv.2
def hvX (h : HV) : JV × List SX := (jobOf h, h.want.map nps)

theorem hds_linesX {L : List UInt8} : ∀ (l : List (List UInt8 × Option (JV × List SX))) (i n : Nat) (hs : List HV), l ≠ [] → (∀ x ∈ l, LineX x) → L.drop i = jnl 10 (l.map Prod.fst) → i ≤ L.length → l.length ≤ n →
    ∃ hs', hdsL L n (i, false) hs = (hs ++ hs', (L.length, false)) ∧ hs'.map hvX = l.filterMap Prod.snd
  | [], i, n, hs, hne, _, _, _, _ => absurd rfl hne
  | x :: r, i, n, hs, hne, hok, hd, hi, hn => by
    obtain ⟨m, rfl⟩ : ∃ m, n = m + 1 := ⟨n - 1, by simp at hn; omega⟩
    have hd0 : L.drop i = x.1 ++ ptl 10 (r.map Prod.fst) := hd
    have hE : EndL (ptl 10 (r.map Prod.fst)) := by
      cases r with
      | nil => exact Or.inl rfl
      | cons y z => exact Or.inr rfl
    have hline : ∃ hs1, lineH L (i, false) hs = (hs ++ hs1, (i + x.1.length, false)) ∧ hs1.map hvX = (x.2.map fun j => [j]).getD [] := by
      rcases hok x (by simp) with ⟨e, h1, h2⟩ | ⟨jv, e, h⟩
      · refine ⟨[], ?_, by rw [e]; rfl⟩
        unfold lineH
        rw [if_neg (by simp [h2 L i _ hd0 hE])]
        simp [toNl_of hd0 h1 hE]
      · obtain ⟨q1, hv, q2, q3, q4⟩ := h L i _ hd0 hE
        refine ⟨[hv], ?_, by rw [e]; simp [hvX, q3, q4]⟩
        unfold lineH
        rw [if_pos q1, q2]
    obtain ⟨hs1, e1, e2⟩ := hline
    have hd1 := drop_more hd0
    cases r with
    | nil =>
      have hL : i + x.1.length = L.length := by
        rcases drop_len hd0 with q | ⟨q1, q2⟩
        · simpa [ptl] using q
        · have := congrArg List.length hd0
          rw [q1] at this ⊢
          simp [ptl] at this ⊢; omega
      have hs2 : sk L 10 (i + x.1.length, false) = false := by
        have e := sk_head (c := 10) hd1 (by decide)
        simpa [ptl] using e
      refine ⟨hs1, ?_, ?_⟩
      · unfold hdsL
        rw [e1]
        simp only
        rw [hs2, hL]; simp
      · rw [e2]
        cases hx : x.2 with
        | none => simp [hx]
        | some j => simp [hx]
    | cons y z =>
      have hd2 : L.drop (i + x.1.length) = 10 :: jnl 10 ((y :: z).map Prod.fst) := hd1
      have hs2 : sk L 10 (i + x.1.length, false) = true := by
        have e := sk_head (c := 10) hd2 (by decide)
        simpa using e
      have hk := (byt_drop hd2).1
      obtain ⟨hs3, e3, e4⟩ := hds_linesX (y :: z) (i + x.1.length + 1) m (hs ++ hs1) (by simp) (fun u hu => hok u (by simp at hu ⊢; right; exact hu)) (byt_drop hd2).2.2 (by omega) (by simp at hn ⊢; omega)
      refine ⟨hs1 ++ hs3, ?_, ?_⟩
      · unfold hdsL
        rw [e1]
        simp only
        rw [hs2, if_pos rfl, e3, List.append_assoc]
      · rw [List.map_append, e2, e4]
        cases hx : x.2 with
        | none => simp [hx]
        | some j => simp [hx]

theorem read_linesX {L : List UInt8} {l : List (List UInt8 × Option (JV × List SX))} {js : List (JV × List SX)} (hL : L = jnl 10 (l.map Prod.fst)) (hne : l ≠ []) (hok : ∀ x ∈ l, LineX x) (hjs : l.filterMap Prod.snd = js) (hj : js ≠ [])
    (hlim : ∀ j ∈ js, LimOK j.1) (hnd : (js.map (·.1.name)).Nodup) (hlen : L.length ≤ 600) : ∃ hs, readH L = (hs, (0, 0)) ∧ hs.map hvX = js := by
  have hnl : l.length ≤ L.length + 1 := by
    have q := ptl_len 10 (l.map Prod.fst)
    cases l with
    | nil => exact absurd rfl hne
    | cons x r =>
      rw [hL]
      have q := ptl_len 10 (r.map Prod.fst)
      simp [jnl] at q ⊢; omega
  obtain ⟨hs', e1, e2⟩ := hds_linesX (L := L) l 0 (L.length + 1) [] hne hok (by simpa using hL) (Nat.zero_le _) hnl
  have hjs' : hs'.map hvX = js := e2.trans hjs
  have hne' : hs' ≠ [] := by
    intro q; rw [q] at hjs'; exact hj hjs'.symm
  have hR : hdsR L = (hs', (L.length, false)) := by
    unfold hdsR
    rw [e1]
    simp
    exact hne'
  have hB : beyH hs' = (0, false) := bey_ok hs' (fun h hh => hlim (hvX h) (by rw [← hjs']; exact List.mem_map.2 ⟨h, hh, rfl⟩))
  have hT : twiH [] hs' = (0, false) := by
    refine twi_ok hs' [] ?_
    have : hs'.map (·.name) = js.map (·.1.name) := by rw [← hjs', List.map_map]; rfl
    rw [List.nil_append, this]; exact hnd
  have hH : readH L = (hs', (0, 0)) := by
    unfold readH
    rw [if_neg (by omega), hR]
    simp [hB, hT]
  exact ⟨hs', hH, hjs'⟩

end Go.Proofs.YtanknpmojblmcaaGreatDoor

/-
  What a head of the book waits for, as a tree: its text, its steps.
-/
set_option linter.unusedSimpArgs false
set_option linter.unusedVariables false
namespace Go.Proofs.YtanknpmojblmcaaGreatDoor

theorem letB_app {R : List UInt8} (h : StopF R) : letB (hdb R) = false ∧ (hdb R == 91) = false := by
  rcases h with h | h | h | h | h <;> simp [hdb, h, letB]
theorem atom_single : AtomP [115, 105, 110, 103, 108, 101] := by
  refine ⟨by simp, by simp, ?_⟩
  intro L i R hd hR
  have hb : pk L (i, false) = 115 := byt_hdb hd
  unfold leafS
  rw [if_pos hb, wd_of _ R i (by decide) hd]
theorem ref_of {L R nm : List UInt8} {i : Nat} (hc : ∀ c ∈ nm, letB c.toNat = true) (h1 : 1 ≤ nm.length) (h6 : nm.length ≤ 6) (hd : L.drop i = nm ++ R) (hR : StopF R) : refS L (i, false) = (i + nm.length, false) := by
  obtain ⟨q1, q2⟩ := letB_app hR
  have e := nm_of (L := L) (R := R) (nm := nm) (i := i) q1 hc h1 h6 hd
  have hs : sk L 91 (i + nm.length, false) = false := by
    have e := sk_head (c := 91) (drop_more hd) (by decide)
    have e2 : decide (R.head? = some 91) = false := by rcases hR with h | h | h | h | h <;> rw [h] <;> decide
    rw [e2] at e; exact e
  unfold refS
  simp only
  rw [e, if_neg (by rw [hs]; decide)]
theorem ref_num {L R nm : List UInt8} {i n : Nat} (hn : n ≤ 12) (hc : ∀ c ∈ nm, letB c.toNat = true) (h1 : 1 ≤ nm.length) (h6 : nm.length ≤ 6) (hd : L.drop i = nm ++ ([91] ++ (dig2 n ++ ([93] ++ R)))) : refS L (i, false) = (i + nm.length + 1 + (dig2 n).length + 1, false) := by
  have e := nm_of (L := L) (R := [91] ++ (dig2 n ++ ([93] ++ R))) (nm := nm) (i := i) (by rfl) hc h1 h6 hd
  have d1 := drop_more hd
  have hs : sk L 91 (i + nm.length, false) = true := by
    have e := sk_head (c := 91) d1 (by decide)
    simpa using e
  have d2 := drop_more d1
  have n1 := num_dig (L := L) (i := i + nm.length + 1) (n := n) hn d2 (by rfl)
  have d3 := drop_more d2
  have w1 : wd L [93] (i + nm.length + 1 + (dig2 n).length, false) = (i + nm.length + 1 + (dig2 n).length + 1, false) := wd_of [93] _ _ (by decide) d3
  unfold refS
  simp only
  rw [e]
  simp only
  rw [if_pos hs, n1.2, w1]
/-- The words ahead of a reference. -/
def opW (k : Nat) : List UInt8 := if k = 0 then [111, 107, 58] else if k = 1 then [97, 110, 121, 58] else [110, 111, 116, 58]
theorem leaf_word {L : List UInt8} {i k : Nat} {r : Nat × Bool} {R : List UInt8} (hd : L.drop i = opW k ++ R) (h : refS L (i + (opW k).length, false) = r) : leafS L (i, false) = r := by
  unfold opW at hd h
  by_cases h0 : k = 0
  · rw [if_pos h0] at hd h
    have hb : pk L (i, false) = 111 := byt_hdb hd
    unfold leafS
    rw [if_neg (by omega), if_pos hb, wd_of _ R i (by decide) hd]
    exact h
  · rw [if_neg h0] at hd h
    by_cases h1 : k = 1
    · rw [if_pos h1] at hd h
      have hb : pk L (i, false) = 97 := byt_hdb hd
      unfold leafS
      rw [if_neg (by omega), if_neg (by omega), if_pos hb, wd_of _ R i (by decide) hd]
      exact h
    · rw [if_neg h1] at hd h
      have hb : pk L (i, false) = 110 := byt_hdb hd
      unfold leafS
      rw [if_neg (by omega), if_neg (by omega), if_neg (by omega), if_pos hb, wd_of _ R i (by decide) hd]
      exact h
theorem opW_head (k : Nat) (r : List UInt8) : opW k ++ r ≠ [] ∧ (opW k ++ r).head? ≠ some 40 := by
  unfold opW
  split
  · simp
  split
  · simp
  · simp
theorem atom_ref {nm : List UInt8} (k : Nat) (hc : ∀ c ∈ nm, letB c.toNat = true) (h1 : 1 ≤ nm.length) (h6 : nm.length ≤ 6) : AtomP (opW k ++ nm) := by
  refine ⟨(opW_head k nm).1, (opW_head k nm).2, ?_⟩
  intro L i R hd hR
  rw [List.append_assoc] at hd
  rw [leaf_word hd (ref_of hc h1 h6 (drop_more hd) hR)]
  simp; omega
theorem atom_num {nm : List UInt8} (k : Nat) {n : Nat} (hn : n ≤ 12) (hc : ∀ c ∈ nm, letB c.toNat = true) (h1 : 1 ≤ nm.length) (h6 : nm.length ≤ 6) : AtomP (opW k ++ (nm ++ ([91] ++ (dig2 n ++ [93])))) := by
  refine ⟨(opW_head k _).1, (opW_head k _).2, ?_⟩
  intro L i R hd hR
  have hd0 : L.drop i = opW k ++ (nm ++ ([91] ++ (dig2 n ++ ([93] ++ R)))) := by rw [hd]; simp
  rw [leaf_word hd0 (ref_num hn hc h1 h6 (drop_more hd0))]
  simp; omega
/-- No newline. -/
def NoNl (t : List UInt8) : Prop := ∀ c ∈ t, c ≠ 10
/-- A text of an atom. -/
structure AtomT (t : List UInt8) : Prop where
  a : AtomP t
  l : LeafP t
  n : t.length ≤ 14
  z : NoNl t
theorem noNl_app {a b : List UInt8} (h1 : NoNl a) (h2 : NoNl b) : NoNl (a ++ b) := by
  intro x hx
  rcases List.mem_append.1 hx with hx | hx
  · exact h1 x hx
  · exact h2 x hx
theorem noNl_opW (k : Nat) : NoNl (opW k) := by
  unfold opW NoNl
  split
  · decide
  split
  · decide
  · decide
theorem noNl_name {nm : List UInt8} (hc : ∀ c ∈ nm, letB c.toNat = true) : NoNl nm := by
  intro x hx
  have := hc x hx
  rintro rfl
  revert this; decide
theorem noNl_dig {n : Nat} (hn : n ≤ 12) : NoNl (dig2 n) := by
  have hh : n = 0 ∨ n = 1 ∨ n = 2 ∨ n = 3 ∨ n = 4 ∨ n = 5 ∨ n = 6 ∨ n = 7 ∨ n = 8 ∨ n = 9 ∨ n = 10 ∨ n = 11 ∨ n = 12 := by omega
  rcases hh with rfl | rfl | rfl | rfl | rfl | rfl | rfl | rfl | rfl | rfl | rfl | rfl | rfl <;> (unfold NoNl; decide)
theorem leafP_app {a b : List UInt8} (h1 : LeafP a) (h2 : LeafP b) : LeafP (a ++ b) := by
  intro x hx
  rcases List.mem_append.1 hx with hx | hx
  · exact h1 x hx
  · exact h2 x hx
theorem leafP_opW (k : Nat) : LeafP (opW k) := by
  unfold opW LeafP
  split
  · decide
  split
  · decide
  · decide
theorem leafP_name {nm : List UInt8} (hc : ∀ c ∈ nm, letB c.toNat = true) : LeafP nm := by
  intro x hx
  have := hc x hx
  simp [letB] at this
  refine ⟨?_, ?_, ?_, ?_⟩ <;> (rintro rfl; revert this; decide)
theorem leafP_dig {n : Nat} (hn : n ≤ 12) : LeafP (dig2 n) := by
  have hh : n = 0 ∨ n = 1 ∨ n = 2 ∨ n = 3 ∨ n = 4 ∨ n = 5 ∨ n = 6 ∨ n = 7 ∨ n = 8 ∨ n = 9 ∨ n = 10 ∨ n = 11 ∨ n = 12 := by omega
  rcases hh with rfl | rfl | rfl | rfl | rfl | rfl | rfl | rfl | rfl | rfl | rfl | rfl | rfl <;> (unfold LeafP; decide)
theorem opW_len (k : Nat) : (opW k).length ≤ 4 := by unfold opW; split <;> (try split) <;> simp
theorem atomT_single : AtomT [115, 105, 110, 103, 108, 101] := ⟨atom_single, by unfold LeafP; decide, by simp, by unfold NoNl; decide⟩
theorem atomT_ref {j : JV} (hj : JobOK j) (k : Nat) : AtomT (opW k ++ j.name) :=
  ⟨atom_ref k hj.nm hj.nm1 hj.nm6, leafP_app (leafP_opW k) (leafP_name hj.nm), by have := opW_len k; have := hj.nm6; simp; omega, noNl_app (noNl_opW k) (noNl_name hj.nm)⟩
theorem atomT_num {j : JV} (hj : JobOK j) (k : Nat) {n : Nat} (hn : n ≤ 12) : AtomT (opW k ++ (j.name ++ ([91] ++ (dig2 n ++ [93])))) :=
  ⟨atom_num k hn hj.nm hj.nm1 hj.nm6, leafP_app (leafP_opW k) (leafP_app (leafP_name hj.nm) (leafP_app (by unfold LeafP; decide) (leafP_app (leafP_dig hn) (by unfold LeafP; decide)))), by have := opW_len k; have := hj.nm6; have := dig2_len n; simp; omega, noNl_app (noNl_opW k) (noNl_app (noNl_name hj.nm) (noNl_app (by unfold NoNl; decide) (noNl_app (noNl_dig hn) (by unfold NoNl; decide))))⟩


/-- What a head may wait for: a tree. -/
inductive WT where
  | sg : WT
  | rf : Nat → List UInt8 → Option Nat → WT
  | an : WT → WT → WT
  | or : WT → WT → WT
def txW : WT → List UInt8
  | .sg => [115, 105, 110, 103, 108, 101]
  | .rf k nm none => opW k ++ nm
  | .rf k nm (some n) => opW k ++ (nm ++ ([91] ++ (dig2 n ++ [93])))
  | .an s t => [40] ++ txW s ++ [41, 38] ++ txW t
  | .or s t => [40] ++ txW s ++ [124] ++ txW t ++ [41]
mutual
/-- Its steps, as they are read. -/
def stW : WT → List SX
  | .sg => [jS 4]
  | .rf k nm o => [(k + 1, nm, o.isSome, o.getD 0)]
  | .an s t => stW s ++ tlS 5 (fcW t)
  | .or s t => stW s ++ (stW t ++ [jS 6])
/-- The steps of its factors. -/
def fcW : WT → List (List SX)
  | .sg => [[jS 4]]
  | .rf k nm o => [[(k + 1, nm, o.isSome, o.getD 0)]]
  | .an s t => stW s :: fcW t
  | .or s t => [stW s ++ (stW t ++ [jS 6])]
end
theorem fcW_st (t : WT) : jnS 5 (fcW t) = stW t := by
  cases t with
  | sg => simp [fcW, stW, jnS, tlS]
  | rf k nm o => simp [fcW, stW, jnS, tlS]
  | an s t => simp [fcW, stW, jnS]
  | or s t => simp [fcW, stW, jnS, tlS]
def dpW : WT → Nat
  | .an s t => 1 + max (dpW s) (dpW t)
  | .or s t => 1 + max (dpW s) (dpW t)
  | _ => 0
/-- The references are such as can be written. -/
def OkW : WT → Prop
  | .sg => True
  | .rf k nm o => k < 3 ∧ (∀ c ∈ nm, letB c.toNat = true) ∧ 1 ≤ nm.length ∧ nm.length ≤ 6 ∧ (∀ n, o = some n → n ≤ 12)
  | .an s t => OkW s ∧ OkW t
  | .or s t => OkW s ∧ OkW t

theorem leafQ_word {L : List UInt8} {i k : Nat} {R : List UInt8} (hk : k < 3) (hd : L.drop i = opW k ++ R) : leafQ L (i, false) = [refQ L (k + 1) (i + (opW k).length, false)] := by
  unfold opW at hd ⊢
  by_cases h0 : k = 0
  · subst h0
    simp only [if_true] at hd ⊢
    have hb : pk L (i, false) = 111 := byt_hdb hd
    unfold leafQ
    rw [if_neg (by omega), if_pos hb, wd_of _ R i (by decide) hd]
  · rw [if_neg h0] at hd ⊢
    by_cases h1 : k = 1
    · subst h1
      simp only [if_true] at hd ⊢
      have hb : pk L (i, false) = 97 := byt_hdb hd
      unfold leafQ
      rw [if_neg (by omega), if_neg (by omega), if_pos hb, wd_of _ R i (by decide) hd]
    · rw [if_neg h1] at hd ⊢
      have h2 : k = 2 := by omega
      subst h2
      have hb : pk L (i, false) = 110 := byt_hdb hd
      unfold leafQ
      rw [if_neg (by omega), if_neg (by omega), if_neg (by omega), if_pos hb, wd_of _ R i (by decide) hd]
theorem refQ_of {L R nm : List UInt8} {i op : Nat} (hc : ∀ c ∈ nm, letB c.toNat = true) (h1 : 1 ≤ nm.length) (h6 : nm.length ≤ 6) (hd : L.drop i = nm ++ R) (hR : StopF R) : nps (refQ L op (i, false)) = (op, nm, false, 0) := by
  obtain ⟨q1, q2⟩ := letB_app hR
  have e := nm_of (L := L) (R := R) (nm := nm) (i := i) q1 hc h1 h6 hd
  have hs : sk L 91 (i + nm.length, false) = false := by
    have e := sk_head (c := 91) (drop_more hd) (by decide)
    have e2 : decide (R.head? = some 91) = false := by rcases hR with h | h | h | h | h <;> rw [h] <;> decide
    rw [e2] at e; exact e
  unfold refQ
  rw [e, if_neg (by rw [hs]; decide)]
  simp only [nps]
  rw [cut_of_drop hd]
theorem refQ_num {L R nm : List UInt8} {i n op : Nat} (hn : n ≤ 12) (hc : ∀ c ∈ nm, letB c.toNat = true) (h1 : 1 ≤ nm.length) (h6 : nm.length ≤ 6) (hd : L.drop i = nm ++ ([91] ++ (dig2 n ++ ([93] ++ R)))) : nps (refQ L op (i, false)) = (op, nm, true, n) := by
  have e := nm_of (L := L) (R := [91] ++ (dig2 n ++ ([93] ++ R))) (nm := nm) (i := i) (by rfl) hc h1 h6 hd
  have d1 := drop_more hd
  have hs : sk L 91 (i + nm.length, false) = true := by
    have e := sk_head (c := 91) d1 (by decide)
    simpa using e
  have d2 := drop_more d1
  have n1 := num_dig (L := L) (i := i + nm.length + 1) (n := n) hn d2 (by rfl)
  unfold refQ
  rw [e, if_pos hs]
  simp only [nps]
  rw [cut_of_drop hd, n1.1]
theorem atomX_sg : AtomX [115, 105, 110, 103, 108, 101] [jS 4] := by
  refine ⟨⟨atomT_single.l, atomT_single.a⟩, ?_⟩
  intro L i R hd hR
  have hb : pk L (i, false) = 115 := byt_hdb hd
  unfold leafQ
  rw [if_pos hb]; rfl
theorem atomX_rf {k : Nat} {nm : List UInt8} {o : Option Nat} (h : OkW (.rf k nm o)) : AtomX (txW (.rf k nm o)) [(k + 1, nm, o.isSome, o.getD 0)] ∧ (txW (.rf k nm o)).length ≤ 14 ∧ NoNl (txW (.rf k nm o)) := by
  obtain ⟨hk, hc, h1, h6, hn⟩ := h
  have hl := opW_len k
  cases o with
  | none =>
    refine ⟨⟨⟨leafP_app (leafP_opW k) (leafP_name hc), atom_ref k hc h1 h6⟩, ?_⟩, by simp [txW]; omega, noNl_app (noNl_opW k) (noNl_name hc)⟩
    intro L i R hd hR
    have hd0 : L.drop i = opW k ++ (nm ++ R) := by rw [hd]; simp [txW]
    rw [leafQ_word hk hd0, List.map_cons, refQ_of hc h1 h6 (drop_more hd0) hR]
    rfl
  | some n =>
    have hn := hn n rfl
    have hdl := dig2_len n
    refine ⟨⟨⟨leafP_app (leafP_opW k) (leafP_app (leafP_name hc) (leafP_app (by unfold LeafP; decide) (leafP_app (leafP_dig hn) (by unfold LeafP; decide)))), atom_num k hn hc h1 h6⟩, ?_⟩, by simp [txW]; omega, noNl_app (noNl_opW k) (noNl_app (noNl_name hc) (noNl_app (by unfold NoNl; decide) (noNl_app (noNl_dig hn) (by unfold NoNl; decide))))⟩
    intro L i R hd hR
    have hd0 : L.drop i = opW k ++ (nm ++ ([91] ++ (dig2 n ++ ([93] ++ R)))) := by rw [hd]; simp [txW]
    rw [leafQ_word hk hd0, List.map_cons, refQ_num hn hc h1 h6 (drop_more hd0)]
    rfl
/-- A term: factors with their steps. -/
def GenX (d n : Nat) (W : List UInt8) (F : List (List SX)) : Prop := (∃ l : List (List UInt8 × (List UInt8 × Nat) × List SX), l ≠ [] ∧ (∀ x ∈ l, FacX d x.1 x.2.1 x.2.2) ∧ W = jnl 38 (l.map (·.1)) ∧ F = l.map (·.2.2)) ∧ W.length ≤ n ∧ NoNl W
def kX : Nat → Nat
  | 0 => 14
  | d + 1 => 2 * kX d + 3
theorem facX_leaf (d : Nat) {t : List UInt8} {S : List SX} (h : AtomX t S) : FacX d t (t, 1) S := by
  cases d with
  | zero => exact ⟨h, rfl⟩
  | succ d => exact Or.inl ⟨h, rfl⟩
theorem genX_one (d n : Nat) {W : List UInt8} {p : List UInt8 × Nat} {S : List SX} (h : FacX d W p S) (hn : W.length ≤ n) (hz : NoNl W) : GenX d n W [S] :=
  ⟨⟨[(W, p, S)], by simp, by intro x hx; simp at hx; subst hx; exact h, by simp [jnl, ptl], rfl⟩, hn, hz⟩
theorem kX_14 (d : Nat) : 14 ≤ kX d := by
  induction d with
  | zero => exact Nat.le_refl _
  | succ d ih => unfold kX; omega
theorem GenX.term {d n : Nat} {W : List UInt8} {F : List (List SX)} (h : GenX d n W F) : ∃ p, TermX (FacX d) W p (jnS 5 F) := by
  obtain ⟨⟨l, h1, h2, h3, h4⟩, _⟩ := h
  exact ⟨_, l, h1, h2, h3, rfl, by rw [h4]⟩
theorem TermX.want {F : PX} {W : List UInt8} {p : List UInt8 × Nat} {S : List SX} (h : TermX F W p S) : ∃ q, WantX F W q S :=
  ⟨_, [(W, p, S)], by simp, by intro x hx; simp at hx; subst hx; exact h, by simp [jnl, ptl], rfl, by simp [jnS, tlS]⟩
/-- A tree's text is read with its steps. -/
theorem tree_gen : ∀ (t : WT) (d : Nat), dpW t ≤ d → OkW t → GenX d (kX d) (txW t) (fcW t) := by
  intro t
  induction t with
  | sg =>
    intro d hd _
    have := kX_14 d
    simp only [fcW]
    exact genX_one d _ (facX_leaf d atomX_sg) (by simp [txW]; omega) (by unfold txW NoNl; decide)
  | rf k nm o =>
    intro d hd h
    obtain ⟨a, b, c⟩ := atomX_rf h
    have := kX_14 d
    simp only [fcW]
    exact genX_one d _ (facX_leaf d a) (by omega) c
  | an s t ihs iht =>
    intro d hd h
    obtain ⟨e, rfl⟩ : ∃ e, d = e + 1 := ⟨d - 1, by unfold dpW at hd; omega⟩
    unfold dpW at hd
    have gs := ihs e (by omega) h.1
    have gt := iht e (by omega) h.2
    obtain ⟨p, hp⟩ := gs.term
    obtain ⟨q, hq⟩ := hp.want
    rw [fcW_st] at hq
    obtain ⟨_, l1, z1⟩ := gs
    obtain ⟨⟨l, h1, h2, h3, h4⟩, l2, z2⟩ := gt
    simp only [fcW]
    refine ⟨⟨(40 :: (txW s ++ [41]), q, stW s) :: l, by simp, ?_, ?_, by rw [h4]; simp⟩, by simp [txW, kX]; omega, noNl_app (noNl_app (noNl_app (by unfold NoNl; decide) z1) (by unfold NoNl; decide)) z2⟩
    · intro x hx
      rcases List.mem_cons.1 hx with rfl | hx
      · exact Or.inr ⟨txW s, rfl, hq⟩
      · exact FacX.up e _ _ _ (h2 x hx)
    · cases l with
      | nil => exact absurd rfl h1
      | cons y z => simp only [txW]; rw [h3]; simp [jnl, ptl]
  | or s t ihs iht =>
    intro d hd h
    obtain ⟨e, rfl⟩ : ∃ e, d = e + 1 := ⟨d - 1, by unfold dpW at hd; omega⟩
    unfold dpW at hd
    have gs := ihs e (by omega) h.1
    have gt := iht e (by omega) h.2
    obtain ⟨p, hp⟩ := gs.term
    obtain ⟨q, hq⟩ := gt.term
    rw [fcW_st] at hp hq
    obtain ⟨_, l1, z1⟩ := gs
    obtain ⟨_, l2, z2⟩ := gt
    simp only [fcW]
    refine genX_one (e + 1) _ (p := wantV [p, q]) (Or.inr ⟨txW s ++ 124 :: txW t, by simp [txW], ⟨[(txW s, p, stW s), (txW t, q, stW t)], by simp, ?_, by simp [jnl, ptl], rfl, ?_⟩⟩) (by simp [txW, kX]; omega) (noNl_app (noNl_app (noNl_app (noNl_app (by unfold NoNl; decide) z1) (by unfold NoNl; decide)) z2) (by unfold NoNl; decide))
    · intro x hx
      simp at hx
      rcases hx with rfl | rfl
      · exact hp
      · exact hq
    · simp [jnS, tlS]
theorem tree_want (t : WT) (hd : dpW t ≤ 2) (h : OkW t) : ∃ p, WantX (FacX 4) (txW t) p (stW t) ∧ (txW t).length ≤ 65 ∧ NoNl (txW t) ∧ txW t ≠ [] := by
  have g := tree_gen t 2 hd h
  obtain ⟨p, hp⟩ := g.term
  rw [fcW_st] at hp
  obtain ⟨q, hq⟩ := hp.want
  refine ⟨q, (hq.mono (FacX.up 2)).mono (FacX.up 3), g.2.1, g.2.2, ?_⟩
  cases t with
  | sg => simp [txW]
  | rf k nm o => cases o <;> simp only [txW] <;> exact (opW_head k _).1
  | an s t => simp [txW]
  | or s t => simp [txW]
end Go.Proofs.YtanknpmojblmcaaGreatDoor

/-
  The book as functions on lists; its texts are read as they were written.
-/
set_option linter.unusedSimpArgs false
set_option linter.unusedVariables false
namespace Go.Proofs.YtanknpmojblmcaaGreatDoor

theorem cmd_line {nm : List UInt8} (hc : ∀ c ∈ nm, letB c.toNat = true) : CmdLine ([114, 117, 110, 32] ++ nm) := by
  constructor
  · intro c hm
    rcases List.mem_append.1 hm with q | q
    · clear hm; simp at q; rcases q with rfl | rfl | rfl | rfl <;> decide
    · have := hc c q
      rintro rfl
      revert this; decide
  · intro L i R hd hR
    have e : byt L i = 114 := byt_hdb hd
    simp [seesB, e]

/-- A line that is made: a command's or a head's. -/
def LnOK (t : List UInt8) : Prop := NoNl t ∧ ((∃ u, t = 114 :: u) ∨ ∃ u, t = 35 :: 74 :: u)
theorem wr0_noNl {j : JV} (h : JobOK j) : NoNl (wr0 j) := by
  unfold wr0
  refine noNl_app (noNl_app (noNl_app (noNl_app (noNl_app ?_ (noNl_name h.nm)) ?_) (noNl_dig (by have := h.nodes; omega))) ?_) (noNl_dig (by have := h.time; omega)) <;> (unfold NoNl; decide)
theorem wrA_noNl {j : JV} (h : JobOK j) : NoNl (wrA j) := by
  unfold wrA
  split
  · rename_i ha
    have q := h.arr ha
    refine noNl_app (noNl_app (noNl_app (noNl_app (wr0_noNl h) ?_) (noNl_dig (by omega))) ?_) (noNl_dig (by omega)) <;> (unfold NoNl; decide)
  · exact wr0_noNl h
theorem wrL_noNl {j : JV} (h : JobOK j) {a : List UInt8} (ha : NoNl a) : NoNl (wrL j a) := by
  unfold wrL
  split
  · exact wrA_noNl h
  · exact noNl_app (noNl_app (wrA_noNl h) (by unfold NoNl; decide)) ha
theorem wr0_head (j : JV) : ∃ u, wr0 j = 35 :: 74 :: u := ⟨_, rfl⟩
theorem wrA_head (j : JV) : ∃ u, wrA j = 35 :: 74 :: u := by
  unfold wrA
  split
  · exact ⟨_, rfl⟩
  · exact wr0_head j
theorem wrL_head (j : JV) (a : List UInt8) : ∃ u, wrL j a = 35 :: 74 :: u := by
  obtain ⟨u, e⟩ := wrA_head j
  unfold wrL
  split
  · exact ⟨u, e⟩
  · rw [e]; exact ⟨_, rfl⟩

theorem phd_append (c : UInt8) (a b : List (List UInt8)) : phd c (a ++ b) = phd c a ++ phd c b := by
  induction a with
  | nil => rfl
  | cons w r ih => simp [phd, ih]

def cmdT (c : Bool) (nm : List UInt8) : List UInt8 := if c then [114, 117, 110, 32] ++ nm ++ [10] else []
def endT (b : Bool) : List UInt8 := if b then [10] else []

def onL (k n : Nat) : List (List UInt8) := (List.range n).map fun i => nameL ((k + i) % 5)
theorem onL_len (k n : Nat) : (onL k n).length = n := by simp [onL]
theorem onL_get (k n i : Nat) (h : i < (onL k n).length) : (onL k n)[i] = nameL ((k + i) % 5) := by simp [onL]
theorem nameL_ok (k : Nat) : (∀ c ∈ nameL k, letB c.toNat = true) ∧ 1 ≤ (nameL k).length ∧ (nameL k).length ≤ 6 := by
  match k with
  | 0 => exact ⟨by decide, by decide, by decide⟩
  | 1 => exact ⟨by decide, by decide, by decide⟩
  | 2 => exact ⟨by decide, by decide, by decide⟩
  | 3 => exact ⟨by decide, by decide, by decide⟩
  | n + 4 => exact ⟨by show ∀ c ∈ ([111, 107] : List UInt8), letB c.toNat = true; decide, by show 1 ≤ ([111, 107] : List UInt8).length; decide, by show ([111, 107] : List UInt8).length ≤ 6; decide⟩
theorem onL_nodup {k n : Nat} (hk : k < 5) (hn : n ≤ 3) : (onL k n).Nodup := by
  have h1 : k = 0 ∨ k = 1 ∨ k = 2 ∨ k = 3 ∨ k = 4 := by omega
  have h2 : n = 0 ∨ n = 1 ∨ n = 2 ∨ n = 3 := by omega
  rcases h1 with rfl | rfl | rfl | rfl | rfl <;> rcases h2 with rfl | rfl | rfl | rfl <;> decide


/-- A head that was written. -/
structure MB where
  batch : Nat
  job : JV
  first : Nat
  count : Nat
  tree : Option WT
  parts : List (Nat × Nat × Nat)
def mb0 : MB := ⟨0, jv0, 0, 0, none, []⟩
def wtM (m : MB) : List UInt8 := (m.tree.map txW).getD []
def stM (m : MB) : List SX := (m.tree.map stW).getD []
structure GoodB (m : MB) : Prop where
  job : JobOK m.job
  c1 : 1 ≤ m.count
  c6 : m.count ≤ 6
  ar : m.job.arr = true → m.job.lo + m.count = m.job.hi + 1
  no : m.job.arr = false → m.count = 1
  tr : ∀ t, m.tree = some t → dpW t ≤ 2 ∧ OkW t
theorem want_len {m : MB} (h : GoodB m) : (wtM m).length ≤ 65 ∧ NoNl (wtM m) := by
  unfold wtM
  cases e : m.tree with
  | none => exact ⟨by simp, by intro c hc; simp at hc⟩
  | some t =>
    obtain ⟨a, b⟩ := h.tr t e
    obtain ⟨p, q1, q2, q3, q4⟩ := tree_want t a b
    exact ⟨q2, q3⟩
theorem line_of {m : MB} (h : GoodB m) : ∃ P, HeadLineX (wrL m.job (wtM m)) { m.job with after := P } (stM m) ∧ (wrL m.job (wtM m)).length ≤ 115 := by
  have hl := wrL_len h.job (wtM m)
  have hw := want_len h
  unfold wtM stM at *
  cases e : m.tree with
  | none =>
    rw [e] at hl hw
    exact ⟨[], head_lineX h.job (Or.inl ⟨rfl, rfl, rfl⟩), by simp at hl ⊢; omega⟩
  | some t =>
    rw [e] at hl hw
    obtain ⟨a, b⟩ := h.tr t e
    obtain ⟨⟨P, k⟩, q1, q2, q3, q4⟩ := tree_want t a b
    exact ⟨P, head_lineX h.job (Or.inr ⟨q4, k, q1⟩), by simp at hl hw ⊢; omega⟩
/-- A head as it is read. -/
def RX (m : MB) (x : JV × List SX) : Prop := ∃ P, x = ({ m.job with after := P }, stM m)
structure BtX (on : List (List UInt8)) (n i : Nat) (S : List UInt8) (ns : List MB) (js : List (JV × List SX)) (l : List (List UInt8 × Option (JV × List SX))) : Prop where
  len : ns.length = i
  jlen : js.length = i
  s1 : i < n → S = phd 10 (l.map Prod.fst)
  s2 : i = n → S = jnl 10 (l.map Prod.fst)
  ok : ∀ x ∈ l, LineX x
  fm : l.filterMap Prod.snd = js
  rm : ∀ k (h1 : k < ns.length) (h2 : k < js.length), RX ns[k] js[k]
  names : js.map (·.1.name) = on.take i
  lim : ∀ j ∈ js, LimOK j.1
  size : S.length ≤ 130 * i
theorem BtX.zero (on : List (List UInt8)) {n : Nat} (hn : 0 < n) : BtX on n 0 [] [] [] [] :=
  ⟨rfl, rfl, fun _ => rfl, fun h => by omega, by simp, rfl, by intro k h1; simp at h1, by simp, by simp, by simp⟩
theorem BtX.step {on : List (List UInt8)} {n i : Nat} {S : List UInt8} {ns : List MB} {js : List (JV × List SX)} {l : List (List UInt8 × Option (JV × List SX))} (B : BtX on n i S ns js l) (hi : i < n) (hon : i < on.length) (hnm : ∀ c ∈ on[i], letB c.toNat = true) (hn6 : on[i].length ≤ 6)
    {m : MB} (hg : GoodB m) (hname : m.job.name = on[i]) (c : Bool) :
    ∃ js' l', BtX on n (i + 1) (S ++ cmdT c on[i] ++ wrL m.job (wtM m) ++ endT (decide (i + 1 < n))) (ns ++ [m]) js' l' := by
  obtain ⟨P, r4, r5⟩ := line_of hg
  have hS := B.s1 hi
  refine ⟨js ++ [({ m.job with after := P }, stM m)], l ++ (if c then [([114, 117, 110, 32] ++ on[i], none)] else []) ++ [(wrL m.job (wtM m), some ({ m.job with after := P }, stM m))], ?_⟩
  have ecmd : phd 10 ((l ++ (if c then [([114, 117, 110, 32] ++ on[i], none)] else [])).map Prod.fst) = S ++ cmdT c on[i] := by
    rw [List.map_append, phd_append, ← hS]
    cases c <;> simp [cmdT, phd]
  refine ⟨by simp [B.len], by simp [B.jlen], ?_, ?_, ?_, ?_, ?_, ?_, ?_, ?_⟩
  · intro h
    rw [List.map_append, phd_append, ecmd]
    simp [phd, endT, h]
  · intro h
    have h2 : ¬ i + 1 < n := by omega
    rw [List.map_append]
    have := jnl_one 10 ((l ++ (if c then [([114, 117, 110, 32] ++ on[i], none)] else [])).map Prod.fst) (wrL m.job (wtM m)) []
    simp only [List.map_cons, List.map_nil]
    rw [this, ecmd]
    simp [ptl, endT, h2]
  · intro x hx
    rcases List.mem_append.1 hx with hx | hx
    · rcases List.mem_append.1 hx with hx | hx
      · exact B.ok x hx
      · cases c with
        | false => simp at hx
        | true =>
          simp at hx; subst hx
          exact Or.inl ⟨rfl, cmd_line hnm⟩
    · simp at hx; subst hx
      exact Or.inr ⟨_, rfl, r4⟩
  · rw [List.filterMap_append, List.filterMap_append, B.fm]
    cases c <;> simp
  · intro k h1 h2
    by_cases hk : k < ns.length
    · have hk2 : k < js.length := by have := B.len; have := B.jlen; omega
      rw [List.getElem_append_left hk, List.getElem_append_left hk2]
      exact B.rm k hk hk2
    · have e1 : k = ns.length := by simp at h1; omega
      have e2 : ns.length = js.length := by rw [B.len, B.jlen]
      subst e1
      rw [List.getElem_append_right (by omega), List.getElem_append_right (by omega)]
      simp only [e2, Nat.sub_self, List.getElem_cons_zero]
      exact ⟨P, rfl⟩
  · rw [List.map_append, B.names, List.take_succ_eq_append_getElem hon]
    simp [hname]
  · intro x hx
    rcases List.mem_append.1 hx with hx | hx
    · exact B.lim x hx
    · simp at hx; subst hx; exact hg.job.lim
  · have := B.size
    have e1 : (cmdT c on[i]).length ≤ 11 := by
      cases c <;> simp [cmdT]; omega
    have e2 : (endT (decide (i + 1 < n))).length ≤ 1 := by
      unfold endT; split <;> simp
    simp only [List.length_append]
    omega
/-- A whole batch is read as it was written. -/
theorem BtX.reads {k n : Nat} {S : List UInt8} {ns : List MB} {js : List (JV × List SX)} {l : List (List UInt8 × Option (JV × List SX))} (hk : k < 5) (hn : n ≤ 3) (hn0 : 0 < n) (B : BtX (onL k n) n n S ns js l) : ∃ hs, readH S = (hs, (0, 0)) ∧ hs.map hvX = js := by
  have hl : l ≠ [] := by
    intro e
    have := B.fm
    rw [e] at this
    have := B.jlen
    simp_all
  refine read_linesX (B.s2 rfl) hl B.ok B.fm ?_ B.lim ?_ (by have := B.size; omega)
  · intro e; have := B.jlen; rw [e] at this; simp at this; omega
  · rw [B.names, List.take_of_length_le (by rw [onL_len]; exact Nat.le_refl _)]
    exact onL_nodup hk hn

/-- A feed's next number, and where it stands then. -/
def nxV (T : List UInt8) (i n : Nat) : Nat := if i < T.length then (T.getD i 0).toNat % n else 0
def nxI (T : List UInt8) (i : Nat) : Nat := if i < T.length then i + 1 else i
theorem nxV_lt (T : List UInt8) (i : Nat) {n : Nat} (h : 0 < n) : nxV T i n < n := by
  unfold nxV
  split
  · exact Nat.mod_lt _ h
  · exact h
def latB (ms : List MB) (nm : List UInt8) : Nat → Option Nat
  | 0 => none
  | n + 1 => if (ms[n]?.map (·.job.name)) = some nm then some n else latB ms nm n
def sglP (ms : List MB) (hb : Nat) (nm : List UInt8) : List (Nat × Nat × Nat) :=
  (0, 0, 0) :: ms.flatMap fun g => if g.batch < hb ∧ g.job.name = nm then [(4, g.first, g.count), (5, 0, 0)] else []
/-- Which head is asked for. -/
def askB (ms : List MB) (own : List (List UInt8)) (hb : Nat) (c : Nat) : Option Nat :=
  match latB ms (nameL c) ms.length with
  | none => none
  | some k => if (ms.getD k mb0).batch < hb ∧ (ms.getD k mb0).job.name ∈ own then none else some k
def atomF (ms : List MB) (own : List (List UInt8)) (hb : Nat) (nm : List UInt8) (T : List UInt8) (i : Nat) : WT × List (Nat × Nat × Nat) × Nat :=
  match askB ms own hb (nxV T i 5) with
  | none => (.sg, sglP ms hb nm, nxI T i)
  | some k =>
    if (ms.getD k mb0).job.arr = true then
      if nxV T (nxI T (nxI T i)) 2 = 1 then
        (.rf (nxV T (nxI T i) 3) (ms.getD k mb0).job.name (some ((ms.getD k mb0).job.lo + nxV T (nxI T (nxI T (nxI T i))) (ms.getD k mb0).count)),
          [(nxV T (nxI T i) 3 + 1, (ms.getD k mb0).first + nxV T (nxI T (nxI T (nxI T i))) (ms.getD k mb0).count, 1)], nxI T (nxI T (nxI T (nxI T i))))
      else (.rf (nxV T (nxI T i) 3) (ms.getD k mb0).job.name none, [(nxV T (nxI T i) 3 + 1, (ms.getD k mb0).first, (ms.getD k mb0).count)], nxI T (nxI T (nxI T i)))
    else (.rf (nxV T (nxI T i) 3) (ms.getD k mb0).job.name none, [(nxV T (nxI T i) 3 + 1, (ms.getD k mb0).first, (ms.getD k mb0).count)], nxI T (nxI T i))
def wantB (ms : List MB) (own : List (List UInt8)) (hb : Nat) (nm : List UInt8) (T : List UInt8) : Nat → Nat → WT × List (Nat × Nat × Nat) × Nat
  | 0, i => atomF ms own hb nm T (nxI T i)
  | d + 1, i =>
    if nxV T i 6 < 3 then atomF ms own hb nm T (nxI T i)
    else
      (if nxV T i 6 = 5 then .or (wantB ms own hb nm T d (nxI T i)).1 (wantB ms own hb nm T d (wantB ms own hb nm T d (nxI T i)).2.2).1
        else .an (wantB ms own hb nm T d (nxI T i)).1 (wantB ms own hb nm T d (wantB ms own hb nm T d (nxI T i)).2.2).1,
       (wantB ms own hb nm T d (nxI T i)).2.1 ++ (wantB ms own hb nm T d (wantB ms own hb nm T d (nxI T i)).2.2).2.1 ++ [(if nxV T i 6 = 5 then 6 else 5, 0, 0)],
       (wantB ms own hb nm T d (wantB ms own hb nm T d (nxI T i)).2.2).2.2)
/-- A head's job, how many, where the feed stands. -/
def faceB (nodes : Nat) (nm : List UInt8) (T : List UInt8) (i : Nat) : JV × Nat × Nat :=
  if nxV T (nxI T (nxI T i)) 4 = 1 then
    (⟨nm, 1 + nxV T i nodes, 1 + nxV T (nxI T i) 12, true, nxV T (nxI T (nxI T (nxI T (nxI T i)))) 3, nxV T (nxI T (nxI T (nxI T (nxI T i)))) 3 + (1 + nxV T (nxI T (nxI T (nxI T i))) 6) - 1, []⟩, 1 + nxV T (nxI T (nxI T (nxI T i))) 6, nxI T (nxI T (nxI T (nxI T (nxI T i)))))
  else (⟨nm, 1 + nxV T i nodes, 1 + nxV T (nxI T i) 12, false, 0, 0, []⟩, 1, nxI T (nxI T (nxI T i)))
def headB (ms : List MB) (own : List (List UInt8)) (bn bj nodes k : Nat) (T : List UInt8) (i : Nat) : MB × Nat :=
  if nxV T (faceB nodes (own.getD k []) T i).2.2 3 = 0 then
    (⟨bn, (faceB nodes (own.getD k []) T i).1, bj, (faceB nodes (own.getD k []) T i).2.1, none, []⟩, nxI T (faceB nodes (own.getD k []) T i).2.2)
  else
    (⟨bn, (faceB nodes (own.getD k []) T i).1, bj, (faceB nodes (own.getD k []) T i).2.1, some (wantB ms own bn (own.getD k []) T 2 (nxI T (faceB nodes (own.getD k []) T i).2.2)).1, (wantB ms own bn (own.getD k []) T 2 (nxI T (faceB nodes (own.getD k []) T i).2.2)).2.1⟩,
      (wantB ms own bn (own.getD k []) T 2 (nxI T (faceB nodes (own.getD k []) T i).2.2)).2.2)
structure BS where
  text : List UInt8
  ms : List MB
  jobs : Nat
  at_ : Nat
def batN (own : List (List UInt8)) (bn nodes n : Nat) (T : List UInt8) (s : BS) : Nat → BS
  | 0 => s
  | k + 1 =>
    let r := batN own bn nodes n T s k
    let h := headB r.ms own bn r.jobs nodes k T (nxI T r.at_)
    ⟨r.text ++ cmdT (decide (nxV T r.at_ 4 = 1)) (own.getD k []) ++ wrL h.1.job (wtM h.1) ++ endT (decide (k + 1 < n)), r.ms ++ [h.1], r.jobs + h.1.count, h.2⟩
/-- A batch more: how many heads, their names. -/
def nB (T : List UInt8) : Nat := 1 + nxV T 0 3
def kB (T : List UInt8) : Nat := nxV T (nxI T 0) 5
def batF (ms : List MB) (bn bj nodes : Nat) (T : List UInt8) : BS :=
  batN (onL (kB T) (nB T)) (bn + 1) nodes (nB T) T ⟨[], ms, bj, nxI T (nxI T 0)⟩ (nB T)
end Go.Proofs.YtanknpmojblmcaaGreatDoor

/-
  The book's walk: a feed's next number, the latest head of a name, as functions on lists.
-/
set_option linter.unusedSimpArgs false
set_option linter.unusedVariables false
namespace Go.Proofs.YtanknpmojblmcaaGreatDoor
open Go.RowKit

/-- A feed: its bytes, where it stands. -/
def Fe (b : Nat) (T : ByteArray) (i : Nat) (w : World) : Prop := Fd b T i w ∧ T.size ≤ maxLen ∧ i ≤ T.size
theorem Fe.lt {b : Nat} {T : ByteArray} {i : Nat} {w : World} (h : Fe b T i w) : b < w.heap.size := h.1.lt
theorem Fe.block {b : Nat} {T : ByteArray} {i : Nat} {w w' : World} (h : Fe b T i w) (k : w'.heap[b]? = w.heap[b]?) : Fe b T i w' := ⟨k.trans h.1, h.2⟩
theorem nxV_in {T : ByteArray} {i n : Nat} (h : i < T.size) : nxV T.data.toList i n = T[i].toNat % n := by
  have h2 : i < T.data.size := h
  unfold nxV
  rw [if_pos (by simpa using h2)]
  have e : T.data.toList.getD i 0 = T[i] := by
    rw [List.getD_eq_getElem?_getD, Array.getElem?_toList, Array.getElem?_eq_getElem h2]
    rfl
  rw [e]
theorem nxV_out {T : ByteArray} {i n : Nat} (h : ¬ i < T.size) : nxV T.data.toList i n = 0 := by
  have h2 : ¬ i < T.data.size := h
  unfold nxV
  rw [if_neg (by simpa using h2)]
theorem nxI_in {T : ByteArray} {i : Nat} (h : i < T.size) : nxI T.data.toList i = i + 1 := by
  have h2 : i < T.data.size := h
  unfold nxI
  rw [if_pos (by simpa using h2)]
theorem nxI_out {T : ByteArray} {i : Nat} (h : ¬ i < T.size) : nxI T.data.toList i = i := by
  have h2 : ¬ i < T.data.size := h
  unfold nxI
  rw [if_neg (by simpa using h2)]

set_option maxHeartbeats 400000 in
theorem nextB (b n : Nat) (T : ByteArray) (i : Nat) (w : World) (h : Fe b T i w) (hn : 0 < n) (hn2 : n ≤ 100) :
    Calls Tryz.prog 13 #[.pointer (some ⟨b, 0, none⟩), .int .i64 (n : Int)] w fun e w' => e = .returned (.int .i64 ((nxV T.data.toList i n : Nat) : Int)) ∧ Fe b T (nxI T.data.toList i) w' ∧ Aside b w w' := by
  obtain ⟨h, hT, hi⟩ := h
  have h0 := h.c0; have h1 := h.c1; have hz := h.z 1
  have hm : T.size ≤ 9223372036854775807 := by unfold maxLen at hT; omega
  by_cases hlt : i < T.size
  · have hi' : (i : Int) < (T.size : Int) := by omega
    have hd : decide ((T.size : Int) ≤ (i : Int)) = false := by simp; omega
    have h2 : (n : Int) ≠ 0 := by omega
    go_enter Tryz.func13, Tryz.ntmps13
    go_wp2_with fail
    go_quiet (fail)
    go_wp2_with fail
    go_quiet (fail)
    go_wp2_with fail
    go_ret
    rw [nxV_in hlt, nxI_in hlt]
    refine ⟨ret_int ?_, ⟨Fd.setAt (w := w.drewN _) h (i + 1) (by simp), hT, hlt⟩, ((Aside.refl b w).drewN _).setCell (Or.inl rfl) _⟩
    have hb : T[i].toNat < 256 := UInt8.toNat_lt _
    rw [show Go.RowKit.wrap64 (T[i].toNat : Int) = (T[i].toNat : Int) from by unfold Go.RowKit.wrap64; omega]
    rfl
  · have hd : decide ((T.size : Int) ≤ (i : Int)) = true := by simp; omega
    go_enter Tryz.func13, Tryz.ntmps13
    go_wp2_with fail
    go_quiet (fail)
    go_wp2_with fail
    go_ret
    rw [nxV_out hlt, nxI_out hlt]
    exact ⟨rfl, ⟨h, hT, hi⟩, (Aside.refl b w).drewN _⟩

/-- A head in memory: its parts lie elsewhere. -/
abbrev Sl := Option Addr × Nat × Nat
def toMV (m : MB) (s : Sl) : MV := ⟨m.batch, m.job, m.first, m.count, wtM m, s.1, s.2.1, s.2.2⟩
def vsB (ms : List MB) (sl : Nat → Sl) : List MV := (List.range ms.length).map fun k => toMV (ms.getD k mb0) (sl k)
theorem vsB_len (ms : List MB) (sl : Nat → Sl) : (vsB ms sl).length = ms.length := by simp [vsB]
theorem vsB_get {ms : List MB} {sl : Nat → Sl} {k : Nat} (h : k < (vsB ms sl).length) : (vsB ms sl)[k] = toMV (ms.getD k mb0) (sl k) := by simp [vsB]

theorem Ms.b {v : Value} {ms : List MB} {sl : Nat → Sl} {w : World} (h : Ms v (vsB ms sl) w) : (v = .slice none 0 0 ∧ ms = []) ∨ ∃ g cap, v = .slice (some ⟨g, 0, none⟩) ms.length cap ∧ ms.length ≤ cap ∧ g < w.heap.size ∧ ∀ k, k < ms.length → ∀ j, j < 12 → w.cell? ⟨g, k * 12 + j, none⟩ = (mvC (toMV (ms.getD k mb0) (sl k)))[j]? := by
  have hl := vsB_len ms sl
  rcases h with ⟨h1, h2⟩ | ⟨g, cap, h1, h2, h3, h4⟩
  · left
    rw [h2] at hl
    exact ⟨h1, List.eq_nil_of_length_eq_zero hl.symm⟩
  · right
    rw [hl] at h1 h2
    refine ⟨g, cap, h1, h2, h3, ?_⟩
    intro k hk j hj
    have hk2 : k < (vsB ms sl).length := by omega
    rw [h4 k hk2 j hj, vsB_get hk2]

set_option maxHeartbeats 1000000 in
theorem latestB (b : Nat) (v : Value) (bn bj : Nat) (ms : List MB) (sl : Nat → Sl) (n : Nat) (nm : List UInt8) (w : World) (hB : Bk b v bn bj w) (hM : Ms v (vsB ms sl) w) (hn : n ≤ ms.length) (hl : ms.length ≤ 100) :
    Calls Tryz.prog 109 #[.pointer (some ⟨b, 0, none⟩), .int .i64 (n : Int), .string (bs nm)] w fun e w' => e = .returned (.int .i64 (latI (latB ms nm n))) ∧ Below w.heap.size w w' := by
  have hb0 := hB.c 0
  simp at hb0
  go_enter Tryz.func109, Tryz.ntmps109
  go_wp2_with fail
  go_loopg [7] (n + 1) (fun g x wr => ∃ k : Nat, k ≤ n ∧ g = k + 1 ∧ x = .int .i64 ((k : Int) - 1) ∧ Hid (latB ms nm n = latB ms nm k) ∧ Below w.heap.size w wr)
  case atStart => exact ⟨n, Nat.le_refl _, rfl, rfl, rfl, Below.refl _ _⟩
  case round =>
    obtain ⟨k, hk, rfl, rfl, HL, hw⟩ := hrel
    have hb1 : wr.cell? ⟨b, 0, none⟩ = some v := (hw.cell hB.lt).trans hb0
    cases k with
    | zero =>
      go_wp2_with fail
      go_ret
      exact ⟨by rw [HL.out]; rfl, hw⟩
    | succ k =>
      have hge : (0 : Int) ≤ (((k + 1 : Nat) : Int) - 1) := by omega
      rcases hM.b with ⟨_, hnil⟩ | ⟨g, cap, rfl, hc, hg, hcell⟩
      · rw [hnil] at hn; simp at hn; omega
      · have hlt : k < ms.length := by omega
        have lk := (hw.cell (p := ⟨g, k * 12 + 1, none⟩) hg).trans (hcell k hlt 1 (by omega))
        simp only [mvC, toMV] at lk
        have HG : Hid (ms[k]?.map (·.job.name) = some (ms.getD k mb0).job.name) := by
          show _ = _
          simp [hlt]
        generalize (ms.getD k mb0).job.name = kn at *
        simp at lk
        have hb2 : ((bs kn).toList == (bs nm).toList) = (kn == nm) := by rw [bs_toList, bs_toList]
        have HC : Hid _ := hcell
        clear hcell
        cases he : (kn == nm) with
        | true =>
          rw [he] at hb2
          have HE : Hid (latB ms nm (k + 1) = some k) := by
            show _ = _
            unfold latB
            rw [HG.out, if_pos (by simpa using he)]
          clear he
          go_wp2_with fail
          go_ret
          exact ⟨by rw [HL.out, HE.out]; exact ret_int (by simp [latI]), hw⟩
        | false =>
          rw [he] at hb2
          have HE : Hid (latB ms nm (k + 1) = latB ms nm k) := by
            show _ = _
            rw [latB, HG.out, if_neg (by simpa using he)]
          clear he
          go_wp2_with fail
          go_roundg (k + 1)
          case measure => omega
          case rel => exact ⟨k, by omega, rfl, by go_num, HL.out.trans HE.out, hw⟩

end Go.Proofs.YtanknpmojblmcaaGreatDoor

/-
  The book's walk: single, with its parts.
-/
set_option linter.unusedSimpArgs false
set_option linter.unusedVariables false
namespace Go.Proofs.YtanknpmojblmcaaGreatDoor
open Go.RowKit

/-- A head that is being made. -/
def Md (h : Nat) (m : MV) (w : World) : Prop := w.heap[h]? = some (.cells (mvC m) 87 (0, 0))
theorem Md.c {h : Nat} {m : MV} {w : World} (x : Md h m w) (i : Nat) : w.cell? ⟨h, i, none⟩ = (mvC m)[i]? := whole_cell x i
theorem Md.z {h : Nat} {m : MV} {w : World} (x : Md h m w) (i : Nat) : w.frozen? ⟨h, i, none⟩ = false := whole_frozen x i
theorem Md.lt {h : Nat} {m : MV} {w : World} (x : Md h m w) : h < w.heap.size := whole_lt x
theorem Md.alloc {h : Nat} {m : MV} {w : World} (x : Md h m w) (o : Obj) : Md h m (w.alloc o) := whole_alloc x o
theorem Md.parts {h : Nat} {m : MV} {w : World} (x : Md h m w) {pa : Option Addr} {pn pc : Nat} : Md h { m with pa := pa, pn := pn, pc := pc } (w.setCell ⟨h, 11, none⟩ (.slice pa pn pc)) := whole_set x 11 _

attribute [local go_sem ↓] Go.wp_at_zero Go.wp_at_succ
theorem infoPart : (Tryz.prog.info? 140).map (fun i => (i.zero, i.size, i.bytes)) = some (some (.agg #[.int .i64 0, .int .i64 0, .int .i64 0]), 3, 24) := by kernel_rfl

/-- The parts of a head, one more. -/
theorem parts_grow {h : Nat} {m : MV} {x w1 : World} {g cap n : Nat} {xs ys : List Value} (hH : Md h m x) (hown : x.ownsRow (h + 1) 140 3 (.slice m.pa m.pn m.pc) n xs)
    (hg : x.grownBy w1 (Value.slice m.pa m.pn m.pc).ownBlock) (hown1 : w1.ownsRow (h + 1) 140 3 (.slice (some ⟨g, 0, none⟩) (n + 1) cap) (n + 1) ys) :
    Md h m w1 ∧ Below h x w1 ∧ Md h { m with pa := some ⟨g, 0, none⟩, pn := n + 1, pc := cap } (w1.setCell ⟨h, 11, none⟩ (.slice (some ⟨g, 0, none⟩) (n + 1) cap)) ∧
    (w1.setCell ⟨h, 11, none⟩ (.slice (some ⟨g, 0, none⟩) (n + 1) cap)).ownsRow (h + 1) 140 3 (.slice (some ⟨g, 0, none⟩) (n + 1) cap) (n + 1) ys ∧
    Below h x (w1.setCell ⟨h, 11, none⟩ (.slice (some ⟨g, 0, none⟩) (n + 1) cap)) := by
  have hne : ∀ k, k ≤ h → some k ≠ (Value.slice m.pa m.pn m.pc).ownBlock := by
    intro k hk e
    have := (hown.lt k e.symm).1; omega
  have h1 : Md h m w1 := (hg.block h hH.lt (hne h (Nat.le_refl _))).trans hH
  have hB : Below h x w1 := ⟨hg.os, hg.tape, hg.output, hg.size, fun k hk => hg.block k (by have := hH.lt; omega) (hne k (by omega))⟩
  refine ⟨h1, hB, h1.parts, ?_, hB.setCell (Nat.le_refl _) _⟩
  refine hown1.kept (row := some h) ⟨rfl, rfl, rfl, by simp [World.setCell], fun k hk hb => Below.heap_setCell _ _ _ _ (fun e => hb (by rw [e]))⟩ ?_
  right
  intro e
  have := (hown1.lt h e).1; omega


/-- The parts of a head. -/
def flatPt (ps : List (Nat × Nat × Nat)) : List Value := (ps.map fun x => [Value.int .i64 (x.1 : Int), Value.int .i64 (x.2.1 : Int), Value.int .i64 (x.2.2 : Int)]).flatten
theorem flatPt_snoc (ps : List (Nat × Nat × Nat)) (a b c : Nat) : flatPt (ps ++ [(a, b, c)]) = flatPt ps ++ [Value.int .i64 (a : Int), Value.int .i64 (b : Int), Value.int .i64 (c : Int)] := by simp [flatPt]
def PtsB (h : Nat) (m : MV) (ps : List (Nat × Nat × Nat)) (w : World) : Prop := w.ownsRow (h + 1) 140 3 (.slice m.pa m.pn m.pc) ps.length (flatPt ps)
def sglN (ms : List MB) (hb : Nat) (nm : List UInt8) (k : Nat) : List (Nat × Nat × Nat) := (ms.take k).flatMap fun g => if g.batch < hb ∧ g.job.name = nm then [(4, g.first, g.count), (5, 0, 0)] else []
theorem sglN_succ {ms : List MB} {hb : Nat} {nm : List UInt8} {k : Nat} (h : k < ms.length) : sglN ms hb nm (k + 1) = sglN ms hb nm k ++ if (ms.getD k mb0).batch < hb ∧ (ms.getD k mb0).job.name = nm then [(4, (ms.getD k mb0).first, (ms.getD k mb0).count), (5, 0, 0)] else [] := by
  unfold sglN
  rw [List.take_add_one, List.getElem?_eq_getElem h, List.flatMap_append]
  simp [h]
theorem sglN_len (ms : List MB) (hb : Nat) (nm : List UInt8) : ∀ k, k ≤ ms.length → (sglN ms hb nm k).length ≤ 2 * k := by
  intro k
  induction k with
  | zero => intro _; simp [sglN]
  | succ k ih =>
    intro hk
    rw [sglN_succ (by omega), List.length_append]
    have := ih (by omega)
    split <;> simp <;> omega
theorem sglP_eq (ms : List MB) (hb : Nat) (nm : List UInt8) : sglP ms hb nm = (0, 0, 0) :: sglN ms hb nm ms.length := by
  unfold sglP sglN
  rw [List.take_length]

set_option maxRecDepth 100000 in
set_option maxHeartbeats 4000000 in
theorem singleB (b h : Nat) (v : Value) (bn bj : Nat) (ms : List MB) (sl : Nat → Sl) (m : MV) (ps : List (Nat × Nat × Nat)) (w : World) (hB : Bk b v bn bj w) (hM : Ms v (vsB ms sl) w) (hb : b < h) (hv : ∀ g, v.ownBlock = some g → g < h) (hl : ms.length ≤ 40) (hH : Md h m w) (hP : PtsB h m ps w) (hc : ps.length ≤ 1000) :
    Calls Tryz.prog 110 #[.pointer (some ⟨b, 0, none⟩), .pointer (some ⟨h, 0, none⟩)] w fun e w' => e = .returned (.tuple #[]) ∧ ∃ pa pn pc, Md h { m with pa := pa, pn := pn, pc := pc } w' ∧ PtsB h { m with pa := pa, pn := pn, pc := pc } (ps ++ sglP ms m.batch m.job.name) w' ∧ Below h w w' := by
  obtain ⟨i0, hi, hz0, hz1, hz2⟩ := info_parts infoPart
  have hown : w.ownsRow (h + 1) 140 3 (.slice m.pa m.pn m.pc) ps.length (flatPt ps) := hP
  clear hP
  have hsl := sglN_len ms m.batch m.job.name
  have HSL : Hid _ := hsl
  clear hsl
  obtain ⟨n, hn⟩ : ∃ n, n = ps.length := ⟨_, rfl⟩
  rw [← hn] at hown hc
  obtain ⟨xs, hxs⟩ : ∃ xs, xs = flatPt ps := ⟨_, rfl⟩
  rw [← hxs] at hown
  have HN : Hid (n = ps.length) := hn
  have HX : Hid (xs = flatPt ps) := hxs
  clear hn hxs
  have hhl := hH.lt
  have h11 := hH.c 11
  have z11 := hH.z 11
  simp [mvC] at h11
  go_enter Tryz.func110, Tryz.ntmps110
  go_wp2_with (at_builtin; refine wpList_append_lies _ rfl _ _ 85 rfl (h + 1) 140 i0 (.agg #[.int .i64 0, .int .i64 0, .int .i64 0]) 3 24 Tryz.underlying85 hi hz0 hz1 hz2 rfl (by decide) _ n xs rfl (hown.alloc _) ⟨w.heap.size, 0, none⟩ 1 1 [.int .i64 0, .int .i64 0, .int .i64 0] rfl rfl ?c1 ?c2 (by decide) ?c3 ?c4 ?c5 _ rfl ?_)
  case c1 => exact World.news_of_block (cs := #[.int .i64 0, .int .i64 0, .int .i64 0]) (t := 140) (fr := (0, 0)) (heap_alloc_new w _)
  case c2 => intro u hu; simp at hu; subst hu; rfl
  case c3 => unfold maxLen; omega
  case c4 => omega
  case c5 => simp; omega
  intro g cap w1 hown1 hgrow hat hlt
  obtain ⟨q1, _, q3, q4, q5⟩ := parts_grow (hH.alloc _) (hown.alloc _) hgrow hown1
  replace q5 := (((Below.refl h w).alloc (by omega) _)).trans q5
  have y11 := q1.c 11
  have yz := q1.z 11
  simp [mvC] at y11
  clear hgrow hown1 hat hlt q1 hown h11 z11
  go_wp2_with fail
  generalize hw2 : w1.setCell ⟨h, 11, none⟩ (.slice (some ⟨g, 0, none⟩) (n + 1) cap) = w2 at *
  clear hw2 y11 yz
  go_loopg [4] (ms.length + 1) (fun r x wr => ∃ (k : Nat) (pa : Option Addr) (pn pc n' : Nat) (xs' : List Value), k ≤ ms.length ∧ r = ms.length - k + 1 ∧ x = .int .i64 (k : Int) ∧ n' ≤ n + 1 + 2 * k ∧ Md h { m with pa := pa, pn := pn, pc := pc } wr ∧ wr.ownsRow (h + 1) 140 3 (.slice pa pn pc) n' xs' ∧ Below h w wr ∧ Hid (n' = (ps ++ (0, 0, 0) :: sglN ms m.batch m.job.name k).length) ∧ Hid (xs' = flatPt (ps ++ (0, 0, 0) :: sglN ms m.batch m.job.name k)))
  case atStart => exact ⟨0, _, _, _, _, _, Nat.zero_le _, rfl, rfl, by omega, q3, q4, q5, by show _ = _; rw [HN.out]; simp [sglN], by show _ = _; rw [HX.out]; simp [sglN, flatPt]⟩
  case round =>
    obtain ⟨k, pa, pn, pc, n', xs', hk, rfl, rfl, hn', r1, r2, r3, HN', HX'⟩ := hrel
    have hb1 : wr.cell? ⟨b, 0, none⟩ = some v := by rw [r3.cell hb, hB.c 0]; rfl
    by_cases hlt : k < ms.length
    · have hlt' : (k : Int) < (ms.length : Int) := by omega
      have hgo := sglN_succ (hb := m.batch) (nm := m.job.name) hlt
      rcases hM.b with ⟨_, hnil⟩ | ⟨g, cap, rfl, hcap, hg, hcell⟩
      · rw [hnil] at hlt; simp at hlt
      · have hgh : g < h := hv g rfl
        have hcl : ∀ j, j < 12 → wr.cell? ⟨g, k * 12 + j, none⟩ = (mvC (toMV (ms.getD k mb0) (sl k)))[j]? := fun j hj => (r3.cell hgh).trans (hcell k hlt j hj)
        have l0 := hcl 0 (by omega); have l1 := hcl 1 (by omega); have l2 := hcl 2 (by omega); have l3 := hcl 3 (by omega); have l4 := hcl 4 (by omega); have l5 := hcl 5 (by omega); have l6 := hcl 6 (by omega); have l7 := hcl 7 (by omega); have l8 := hcl 8 (by omega); have l9 := hcl 9 (by omega); have l10 := hcl 10 (by omega); have l11 := hcl 11 (by omega)
        have HGO : Hid (sglN ms m.batch m.job.name (k + 1) = sglN ms m.batch m.job.name k ++ if (toMV (ms.getD k mb0) (sl k)).batch < m.batch ∧ (toMV (ms.getD k mb0) (sl k)).job.name = m.job.name then [(4, (toMV (ms.getD k mb0) (sl k)).first, (toMV (ms.getD k mb0) (sl k)).count), (5, 0, 0)] else []) := hgo
        clear hgo
        generalize toMV (ms.getD k mb0) (sl k) = y at *
        simp [mvC] at l0 l1 l2 l3 l4 l5 l6 l7 l8 l9 l10 l11
        have HC : Hid _ := hcell
        clear hcl hcell
        go_wp2_with fail
        have Y : Md wr.heap.size y (wr.alloc (.cells #[.int .i64 (y.batch : Int), .string (bs y.job.name), .int .i64 (y.job.nodes : Int), .int .i64 (y.job.time : Int), .bool y.job.arr, .int .i64 (y.job.lo : Int), .int .i64 (y.job.hi : Int), .string (bs y.job.after), .int .i64 (y.first : Int), .int .i64 (y.count : Int), .string (bs y.want), .slice y.pa y.pn y.pc] 87)) := whole_new wr _
        replace r1 := r1.alloc (.cells #[.int .i64 (y.batch : Int), .string (bs y.job.name), .int .i64 (y.job.nodes : Int), .int .i64 (y.job.time : Int), .bool y.job.arr, .int .i64 (y.job.lo : Int), .int .i64 (y.job.hi : Int), .string (bs y.job.after), .int .i64 (y.first : Int), .int .i64 (y.count : Int), .string (bs y.want), .slice y.pa y.pn y.pc] 87)
        replace r2 := r2.alloc (.cells #[.int .i64 (y.batch : Int), .string (bs y.job.name), .int .i64 (y.job.nodes : Int), .int .i64 (y.job.time : Int), .bool y.job.arr, .int .i64 (y.job.lo : Int), .int .i64 (y.job.hi : Int), .string (bs y.job.after), .int .i64 (y.first : Int), .int .i64 (y.count : Int), .string (bs y.want), .slice y.pa y.pn y.pc] 87)
        have hyl : h < wr.heap.size := by have := r3.size; omega
        replace r3 := r3.alloc (Nat.le_of_lt hyl) (.cells #[.int .i64 (y.batch : Int), .string (bs y.job.name), .int .i64 (y.job.nodes : Int), .int .i64 (y.job.time : Int), .bool y.job.arr, .int .i64 (y.job.lo : Int), .int .i64 (y.job.hi : Int), .string (bs y.job.after), .int .i64 (y.first : Int), .int .i64 (y.count : Int), .string (bs y.want), .slice y.pa y.pn y.pc] 87)
        generalize hyb : wr.heap.size = yb at *
        generalize wr.alloc (.cells #[.int .i64 (y.batch : Int), .string (bs y.job.name), .int .i64 (y.job.nodes : Int), .int .i64 (y.job.time : Int), .bool y.job.arr, .int .i64 (y.job.lo : Int), .int .i64 (y.job.hi : Int), .string (bs y.job.after), .int .i64 (y.first : Int), .int .i64 (y.count : Int), .string (bs y.want), .slice y.pa y.pn y.pc] 87) = x at *
        clear hyb l0 l1 l2 l3 l4 l5 l6 l7 l8 l9 l10 l11 hb1
        have y0 := Y.c 0; have y1 := Y.c 1; have y8 := Y.c 8; have y9 := Y.c 9
        have m0 := r1.c 0; have m1 := r1.c 1; have m11 := r1.c 11; have z11 := r1.z 11
        simp [mvC] at y0 y1 y8 y9 m0 m1 m11
        by_cases hbt : y.batch < m.batch
        · have hbt' : decide ((y.batch : Int) < (m.batch : Int)) = true := by simp; omega
          have hnm : ((bs y.job.name).toList == (bs m.job.name).toList) = (y.job.name == m.job.name) := by rw [bs_toList, bs_toList]
          cases hne : (y.job.name == m.job.name) with
          | true =>
            rw [hne] at hnm
            have HIF : Hid (y.batch < m.batch ∧ y.job.name = m.job.name) := ⟨hbt, by simpa using hne⟩
            clear hne
            go_quiet (fail)
            go_wp2_with fail
            replace r1 : Md h _ (x.drewN nq) := r1
            replace r2 : (x.drewN nq).ownsRow (h + 1) 140 3 (.slice pa pn pc) n' xs' := r2
            replace r3 := below_drewN r3 nq
            replace Y : Md yb y (x.drewN nq) := Y
            replace y8 : (x.drewN nq).cell? ⟨yb, 8, none⟩ = some (.int .i64 (y.first : Int)) := y8
            replace y9 : (x.drewN nq).cell? ⟨yb, 9, none⟩ = some (.int .i64 (y.count : Int)) := y9
            replace m11 : (x.drewN nq).cell? ⟨h, 11, none⟩ = some (.slice pa pn pc) := m11
            clear z11 y0 y1 m0 m1
            generalize x.drewN nq = x2 at *
            have z11 := r1.z 11
            have ay := row_ne r2 Y (by decide)
            have ah : (Value.slice pa pn pc).ownBlock ≠ some h := by intro q; have := (r2.lt h q).1; omega
            have hyx := Y.lt
            have hhx := r1.lt
            have fz : ∀ o, (x2.alloc o).drew.frozen? ⟨h, 11, none⟩ = false := fun o => whole_frozen (w := (x2.alloc o).drew) (whole_alloc r1 o) 11
            go_region_law
              ((refine step_append_lies _ (by rfl) _ _ _ (by rfl) (h + 1) 140 i0 _ 3 24 Tryz.underlying85 hi hz0 hz1 hz2 rfl (by omega) (.slice pa pn pc) n' xs' (by rfl) ((r2.alloc _).drew)
                  ⟨x2.heap.size, 0, none⟩ 1 1 [.int .i64 4, .int .i64 (y.first : Int), .int .i64 (y.count : Int)] (by rfl) (by rfl) (World.news_of_block (cs := #[.int .i64 4, .int .i64 (y.first : Int), .int .i64 (y.count : Int)]) (t := 140) (fr := (0, 0)) (heap_alloc_new x2 _)) (by simp [Value.oneCell'])
                  (by omega) (by unfold maxLen; omega) (by omega) (by simp; omega) (x2.heap.size + 1) (by simp) ?_; intro g3 cap3 w3 hown3 hgrow3 hat3 hlt3; have m3 : Md h { m with pa := pa, pn := pn, pc := pc } w3 := (hgrow3.block h (by simp; omega) (Ne.symm ah)).trans (whole_alloc r1 _); have m3c := m3.c 11; have m3z := m3.z 11; simp [mvC] at m3c))
            all_goals
              obtain ⟨p1, p2, p3, p4, p5⟩ := parts_grow (m := { m with pa := pa, pn := pn, pc := pc }) (x := (x2.alloc (.cells #[.int .i64 4, .int .i64 (y.first : Int), .int .i64 (y.count : Int)] 140)).drew) (whole_alloc r1 _) ((r2.alloc _).drew) hgrow3 hown3
              replace p5 := r3.trans (((Below.refl h x2).alloc (by omega) _).drew.trans p5)
              have p5s := p3.lt
              clear hgrow3 hown3 hat3 hlt3 m3 m3z m3c p1 p2 r1 r2 r3 Y y8 y9 m11 z11 ay ah hyx hhx fz
              generalize w3.setCell ⟨h, 11, none⟩ (.slice (some ⟨g3, 0, none⟩) (n' + 1) cap3) = w4 at *
              have c11 := p3.c 11
              have cz := p3.z 11
              simp [mvC] at c11
              go_wp2_with (at_builtin; refine wpList_append_lies _ rfl _ _ 85 rfl (h + 1) 140 i0 (.agg #[.int .i64 0, .int .i64 0, .int .i64 0]) 3 24 Tryz.underlying85 hi hz0 hz1 hz2 rfl (by decide) _ (n' + 1) _ rfl (p4.alloc _) ⟨w4.heap.size, 0, none⟩ 1 1 [.int .i64 5, .int .i64 0, .int .i64 0] rfl rfl (World.news_of_block (cs := #[.int .i64 5, .int .i64 0, .int .i64 0]) (t := 140) (fr := (0, 0)) (heap_alloc_new w4 _)) ?c2 (by decide) ?c3 ?c4 ?c5 _ rfl ?_)
              case c2 => first | exact ⟨rfl, rfl⟩ | (intro u hu; simp at hu; rcases hu with rfl | rfl <;> rfl)
              case c3 => unfold maxLen; omega
              case c4 => omega
              case c5 => first | omega | (simp; omega)
              intro g5 cap5 w5 hown5 hgrow5 hat5 hlt5
              obtain ⟨s1, _, s3, s4, s5⟩ := parts_grow (p3.alloc _) (p4.alloc _) hgrow5 hown5
              replace s5 := p5.trans (((Below.refl h w4).alloc (by omega) _).trans s5)
              have d11 := s1.c 11
              have dz := s1.z 11
              simp [mvC] at d11
              clear hgrow5 hown5 hat5 hlt5 s1 c11 cz p3 p4 p5
              go_wp2_with fail
              go_roundg (ms.length - (k + 1) + 1)
              case measure => omega
              case rel => exact ⟨k + 1, _, _, _, _, _, by omega, rfl, by go_num, by omega, s3, s4, s5, by show _ = _; rw [HGO.out, if_pos HIF.out, HN'.out]; simp; omega, by show _ = _; rw [HGO.out, if_pos HIF.out, HX'.out]; simp [flatPt]⟩
          | false =>
            rw [hne] at hnm
            have HIF : Hid (¬ (y.batch < m.batch ∧ y.job.name = m.job.name)) := fun q => absurd q.2 (by simpa using hne)
            clear hne
            go_quiet (fail)
            go_wp2_with fail
            go_roundg (ms.length - (k + 1) + 1)
            case measure => omega
            case rel => exact ⟨k + 1, pa, pn, pc, n', xs', by omega, rfl, by go_num, by omega, r1, r2, below_drewN r3 _, by show _ = _; rw [HGO.out, if_neg HIF.out, HN'.out, List.append_nil], by show _ = _; rw [HGO.out, if_neg HIF.out, HX'.out, List.append_nil]⟩
        · have hbt' : decide ((y.batch : Int) < (m.batch : Int)) = false := by simp; omega
          have HIF : Hid (¬ (y.batch < m.batch ∧ y.job.name = m.job.name)) := fun q => hbt q.1
          go_quiet (fail)
          go_wp2_with fail
          go_roundg (ms.length - (k + 1) + 1)
          case measure => omega
          case rel => exact ⟨k + 1, pa, pn, pc, n', xs', by omega, rfl, by go_num, by omega, r1, r2, below_drewN r3 _, by show _ = _; rw [HGO.out, if_neg HIF.out, HN'.out, List.append_nil], by show _ = _; rw [HGO.out, if_neg HIF.out, HX'.out, List.append_nil]⟩
    · have hlt' : decide ((k : Int) < (ms.length : Int)) = false := by simp; omega
      have hke : k = ms.length := by omega
      have hlen : (∃ a d, v = .slice a ms.length d) := by
        rcases hM.b with ⟨rfl, hnil⟩ | ⟨g, cap, rfl, _⟩
        · rw [hnil]; exact ⟨_, _, rfl⟩
        · exact ⟨_, _, rfl⟩
      obtain ⟨a1, d1, rfl⟩ := hlen
      go_wp2_with fail
      go_end0
      refine ⟨rfl, pa, pn, pc, r1, ?_, r3⟩
      unfold PtsB
      rw [sglP_eq, ← hke, ← HN'.out, ← HX'.out]
      exact r2

end Go.Proofs.YtanknpmojblmcaaGreatDoor

/-
  The book's walk: what stands while a head is made.
-/
set_option linter.unusedSimpArgs false
set_option linter.unusedVariables false
namespace Go.Proofs.YtanknpmojblmcaaGreatDoor
open Go.RowKit

/-- A slice of names. -/
def Ow (v : Value) (on : List (List UInt8)) (w : World) : Prop :=
  (v = .slice none 0 0 ∧ on = []) ∨ ∃ g cap, v = .slice (some ⟨g, 0, none⟩) on.length cap ∧ on.length ≤ cap ∧ g < w.heap.size ∧ ∀ k, (hk : k < on.length) → w.cell? ⟨g, k, none⟩ = some (.string (bs on[k]))
theorem Ow.form {v : Value} {on : List (List UInt8)} {w : World} (h : Ow v on w) : ∃ a c, v = .slice a on.length c := by
  rcases h with ⟨rfl, rfl⟩ | ⟨g, cap, rfl, _⟩
  · exact ⟨_, _, rfl⟩
  · exact ⟨_, _, rfl⟩

/-- All blocks ahead of h but f are as they were. -/
structure Upon (f h : Nat) (w w' : World) : Prop where
  os : w'.os = w.os
  tape : w'.tape = w.tape
  output : w'.output = w.output
  size : w.heap.size ≤ w'.heap.size
  block : ∀ k, k < h → k ≠ f → w'.heap[k]? = w.heap[k]?
theorem Upon.refl (f h : Nat) (w : World) : Upon f h w w := ⟨rfl, rfl, rfl, Nat.le_refl _, fun _ _ _ => rfl⟩
theorem Upon.trans {f h : Nat} {x y z : World} (a : Upon f h x y) (b : Upon f h y z) : Upon f h x z :=
  ⟨b.os.trans a.os, b.tape.trans a.tape, b.output.trans a.output, Nat.le_trans a.size b.size, fun k hk hf => (b.block k hk hf).trans (a.block k hk hf)⟩
theorem Upon.aside {f h : Nat} {w w' : World} (a : Aside f w w') (hh : h ≤ w.heap.size) : Upon f h w w' := ⟨a.os, a.tape, a.output, a.size, fun k hk hf => a.block k (by omega) hf⟩
theorem Upon.below {f h : Nat} {w w' : World} (a : Below h w w') : Upon f h w w' := ⟨a.os, a.tape, a.output, a.size, fun k hk hf => a.block k hk⟩

/-- What stands while the head in block h is made. -/
structure Env (b f h : Nat) (v : Value) (bn bj : Nat) (ms : List MB) (sl : Nat → Sl) (ov : Value) (on : List (List UInt8)) (m : MV) (ps : List (Nat × Nat × Nat)) (T : ByteArray) (i : Nat) (w : World) : Prop where
  bk : Bk b v bn bj w
  mr : Ms v (vsB ms sl) w
  ow : Ow ov on w
  fd : Fe f T i w
  md : Md h m w
  pt : PtsB h m ps w
  bh : b < h
  fh : f < h
  vh : ∀ g, v.ownBlock = some g → g < h
  oh : ∀ g, ov.ownBlock = some g → g < h
  bf : b ≠ f
  vf : v.ownBlock ≠ some f
  of : ov.ownBlock ≠ some f

theorem Ms.blk {v : Value} {ms : List MV} {w w' : World} (h : Ms v ms w) (hs : w.heap.size ≤ w'.heap.size) (k : ∀ g, v.ownBlock = some g → w'.heap[g]? = w.heap[g]?) : Ms v ms w' := by
  rcases h with h | ⟨g, cap, rfl, h2, h3, h4⟩
  · exact Or.inl h
  · exact Or.inr ⟨g, cap, rfl, h2, by omega, fun i hi j hj => (World.cell?_of_block (a := ⟨g, i * 12 + j, none⟩) (k g rfl)).trans (h4 i hi j hj)⟩
theorem Ow.blk {v : Value} {on : List (List UInt8)} {w w' : World} (h : Ow v on w) (hs : w.heap.size ≤ w'.heap.size) (k : ∀ g, v.ownBlock = some g → w'.heap[g]? = w.heap[g]?) : Ow v on w' := by
  rcases h with h | ⟨g, cap, rfl, h2, h3, h4⟩
  · exact Or.inl h
  · exact Or.inr ⟨g, cap, rfl, h2, by omega, fun i hi => (World.cell?_of_block (a := ⟨g, i, none⟩) (k g rfl)).trans (h4 i hi)⟩

variable {b f h : Nat} {v : Value} {bn bj : Nat} {ms : List MB} {sl : Nat → Sl} {ov : Value} {on : List (List UInt8)} {m m' : MV} {ps ps' : List (Nat × Nat × Nat)} {T : ByteArray} {i i' : Nat} {w w' : World}

theorem Env.hlt (E : Env b f h v bn bj ms sl ov on m ps T i w) : h < w.heap.size := E.md.lt
/-- All ahead of h is as it was. -/
theorem Env.next (E : Env b f h v bn bj ms sl ov on m ps T i w) (k : Below h w w') (md : Md h m' w') (pt : PtsB h m' ps' w') : Env b f h v bn bj ms sl ov on m' ps' T i w' :=
  ⟨(k.block b E.bh).trans E.bk, E.mr.blk k.size (fun g hg => k.block g (E.vh g hg)), E.ow.blk k.size (fun g hg => k.block g (E.oh g hg)), E.fd.block (k.block f E.fh), md, pt, E.bh, E.fh, E.vh, E.oh, E.bf, E.vf, E.of⟩
theorem Env.below (E : Env b f h v bn bj ms sl ov on m ps T i w) (k : Below w.heap.size w w') : Env b f h v bn bj ms sl ov on m ps T i w' := by
  have hown := E.pt
  exact E.next (k.mono (Nat.le_of_lt E.hlt)) ((k.block h E.hlt).trans E.md) (owns_below hown k)
theorem Env.alloc (E : Env b f h v bn bj ms sl ov on m ps T i w) (o : Obj) : Env b f h v bn bj ms sl ov on m ps T i (w.alloc o) := E.below ((Below.refl _ w).alloc (Nat.le_refl _) o)
theorem Env.drewN (E : Env b f h v bn bj ms sl ov on m ps T i w) (n : Nat) : Env b f h v bn bj ms sl ov on m ps T i (w.drewN n) := E.below (below_drewN (Below.refl _ w) n)
theorem Env.setCell (E : Env b f h v bn bj ms sl ov on m ps T i w) {p : Addr} (hp : h < p.block) (hr : (Value.slice m.pa m.pn m.pc).ownBlock ≠ some p.block) (u : Value) : Env b f h v bn bj ms sl ov on m ps T i (w.setCell p u) := by
  have hown := E.pt
  refine E.next ((Below.refl h w).setCell (by omega) u) (whole_set_ne E.md p (by omega) u) (ownsRow_setCell_other hown hr u)
theorem Env.feed (E : Env b f h v bn bj ms sl ov on m ps T i w) (k : Aside f w w') (hf : Fe f T i' w') : Env b f h v bn bj ms sl ov on m ps T i' w' := by
  have hown := E.pt
  have hl := E.hlt
  have hbh := E.bh
  have hfh := E.fh
  exact ⟨(k.block b (by omega) E.bf).trans E.bk, E.mr.blk k.size (fun g hg => k.block g (by have := E.vh g hg; omega) (fun e => E.vf (by rw [hg, e]))), E.ow.blk k.size (fun g hg => k.block g (by have := E.oh g hg; omega) (fun e => E.of (by rw [hg, e]))), hf,
    (k.block h hl (by omega)).trans E.md, owns_aside hown k (by omega), E.bh, E.fh, E.vh, E.oh, E.bf, E.vf, E.of⟩

end Go.Proofs.YtanknpmojblmcaaGreatDoor

/-
  What a head's struct is.
-/
set_option linter.unusedSimpArgs false
set_option linter.unusedVariables false
namespace Go.Proofs.YtanknpmojblmcaaGreatDoor
open Go.RowKit

theorem infoMade : (Tryz.prog.info? 87).map (fun i => (i.zero, i.size, i.bytes)) = some (some (.agg (mvC ⟨0, jv0, 0, 0, [], none, 0, 0⟩)), 12, 136) := by kernel_rfl

end Go.Proofs.YtanknpmojblmcaaGreatDoor
