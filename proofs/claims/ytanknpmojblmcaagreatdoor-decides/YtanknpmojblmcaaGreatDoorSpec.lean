/-
  Plain functions on texts: what the program's reader does, as functions on lists of bytes. Nothing of a program is imported.
-/
namespace Go.Proofs.YtanknpmojblmcaaGreatDoor

/-- The byte at i, as a number; 0 beyond the end. -/
def byt (L : List UInt8) (i : Nat) : Nat := (L.getD i 0).toNat

theorem byt_lt (L : List UInt8) (i : Nat) : byt L i < 256 := UInt8.toNat_lt _
theorem byt_out {L : List UInt8} {i : Nat} (h : L.length ≤ i) : byt L i = 0 := by
  simp [byt, List.getElem?_eq_none h]
theorem byt_in {L : List UInt8} {i : Nat} (h : byt L i ≠ 0) : i < L.length := by
  apply Classical.byContradiction; intro h'; exact h (byt_out (by omega))
theorem byt_arr (T : ByteArray) (i : Nat) (h : i < T.size) : T[i].toNat = byt T.data.toList i := by
  have h' : i < T.data.toList.length := by simpa using h
  simp [byt, List.getD_eq_getElem?_getD, List.getElem?_eq_getElem h']
  rfl

def letB (c : Nat) : Bool := decide (97 ≤ c) && decide (c ≤ 122)
def digB (c : Nat) : Bool := decide (48 ≤ c) && decide (c ≤ 57)

/-- peek, skip, word. A reader's state: its place, whether it failed. -/
def pk (L : List UInt8) (s : Nat × Bool) : Nat := if s.2 then 0 else byt L s.1
def sk (L : List UInt8) (c : Nat) (s : Nat × Bool) : Bool := !s.2 && decide (s.1 < L.length) && (byt L s.1 == c)
def skS (L : List UInt8) (c : Nat) (s : Nat × Bool) : Nat × Bool := if sk L c s then (s.1 + 1, s.2) else s
def wd (L : List UInt8) : List UInt8 → Nat × Bool → Nat × Bool
  | [], s => s
  | c :: r, s => if sk L c.toNat s then wd L r (s.1 + 1, s.2) else (s.1, true)

/-- How many letters stand at i, up to n. -/
def lets (L : List UInt8) : Nat → Nat → Nat
  | 0, _ => 0
  | n + 1, i => if letB (byt L i) then lets L n (i + 1) + 1 else 0
def nmS (L : List UInt8) (s : Nat × Bool) : Nat × Bool :=
  if s.2 then s else (s.1 + lets L 6 s.1, lets L 6 s.1 == 0)
/-- The bytes from i on, up to k. -/
def cut (L : List UInt8) (i k : Nat) : List UInt8 := (L.drop i).take (k - i)

def numV (L : List UInt8) (s : Nat × Bool) : Nat :=
  if digB (pk L s) then
    if pk L s == 48 || !digB (pk L (s.1 + 1, s.2)) then pk L s - 48 else 10 * (pk L s - 48) + (pk L (s.1 + 1, s.2) - 48)
  else 0
def numS (L : List UInt8) (s : Nat × Bool) : Nat × Bool :=
  if digB (pk L s) then
    if pk L s == 48 || !digB (pk L (s.1 + 1, s.2)) then (s.1 + 1, s.2) else (s.1 + 2, s.2)
  else (s.1, true)

/-- A reference. -/
def refS (L : List UInt8) (s : Nat × Bool) : Nat × Bool :=
  let a := nmS L s
  if sk L 91 a then wd L [93] (numS L (a.1 + 1, a.2)) else a

/-- A step of a want, as the reader lays it. -/
structure Stp where
  op : Nat
  pos : Nat
  name : List UInt8
  nbd : Bool
  num : Nat
def stp (op : Nat) : Stp := ⟨op, 0, [], false, 0⟩
/-- The step of a reference. -/
def refQ (L : List UInt8) (op : Nat) (s : Nat × Bool) : Stp :=
  if sk L 91 (nmS L s) then ⟨op, s.1, cut L s.1 (nmS L s).1, true, numV L ((nmS L s).1 + 1, (nmS L s).2)⟩ else ⟨op, s.1, cut L s.1 (nmS L s).1, false, 0⟩

/-- The end of the line in which i stands. -/
def toNl (L : List UInt8) (i : Nat) : Nat := i + ((L.drop i).takeWhile fun c => c != 10).length
theorem toNl_step {L : List UInt8} {i : Nat} (hi : i < L.length) (h : byt L i ≠ 10) : toNl L i = toNl L (i + 1) := by
  have e : L[i] ≠ 10 := by
    intro e; apply h; simp [byt, List.getD_eq_getElem?_getD, List.getElem?_eq_getElem hi, e]
  unfold toNl
  rw [List.drop_eq_getElem_cons hi, List.takeWhile_cons_of_pos (by simpa using e)]
  simp; omega
theorem toNl_at {L : List UInt8} {i : Nat} (hi : i < L.length) (h : byt L i = 10) : toNl L i = i := by
  have e : L[i] = 10 := by
    apply UInt8.toNat_inj.1
    simpa [byt, List.getD_eq_getElem?_getD, List.getElem?_eq_getElem hi] using h
  unfold toNl
  rw [List.drop_eq_getElem_cons hi, List.takeWhile_cons_of_neg (by simp [e])]
  simp
theorem toNl_end {L : List UInt8} {i : Nat} (hi : L.length ≤ i) : toNl L i = i := by
  unfold toNl
  rw [List.drop_eq_nil_of_le hi]; simp

def seesB (L : List UInt8) (i : Nat) : Bool := byt L i == 35 && byt L (i + 1) == 74

end Go.Proofs.YtanknpmojblmcaaGreatDoor
