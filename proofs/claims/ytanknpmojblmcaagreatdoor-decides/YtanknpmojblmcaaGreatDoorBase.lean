/-
  The program's reader, its block known whole.
-/
import Derived.Test.YtanknpmojblmcaaGreatDoorWld
import Derived.Test.YtanknpmojblmcaaGreatDoorSpec
namespace Go.Proofs.YtanknpmojblmcaaGreatDoor
open Go.RowKit

/-- The reader of the program: its text, its place, whether it failed; the slice of its steps. -/
def Rd (b : Nat) (rv : Value) (T : ByteArray) (i : Nat) (f : Bool) (w : World) : Prop :=
  w.heap[b]? = some (.cells #[.string T, .int .i64 i, .bool f, rv] 101 (0, 0))

theorem Rd.c0 {b : Nat} {rv : Value} {T : ByteArray} {i : Nat} {f : Bool} {w : World} (h : Rd b rv T i f w) : w.cell? ⟨b, 0, none⟩ = some (.string T) := by rw [whole_cell h]; rfl
theorem Rd.c1 {b : Nat} {rv : Value} {T : ByteArray} {i : Nat} {f : Bool} {w : World} (h : Rd b rv T i f w) : w.cell? ⟨b, 1, none⟩ = some (.int .i64 i) := by rw [whole_cell h]; rfl
theorem Rd.c2 {b : Nat} {rv : Value} {T : ByteArray} {i : Nat} {f : Bool} {w : World} (h : Rd b rv T i f w) : w.cell? ⟨b, 2, none⟩ = some (.bool f) := by rw [whole_cell h]; rfl
theorem Rd.c3 {b : Nat} {rv : Value} {T : ByteArray} {i : Nat} {f : Bool} {w : World} (h : Rd b rv T i f w) : w.cell? ⟨b, 3, none⟩ = some rv := by rw [whole_cell h]; rfl
theorem Rd.z {b : Nat} {rv : Value} {T : ByteArray} {i : Nat} {f : Bool} {w : World} (h : Rd b rv T i f w) (k : Nat) : w.frozen? ⟨b, k, none⟩ = false := whole_frozen h k
theorem Rd.drewN {b : Nat} {rv : Value} {T : ByteArray} {i : Nat} {f : Bool} {w : World} (h : Rd b rv T i f w) (n : Nat) : Rd b rv T i f (w.drewN n) := h
theorem Rd.setAt {b : Nat} {rv : Value} {T : ByteArray} {i : Nat} {f : Bool} {w : World} (h : Rd b rv T i f w) (j : Nat) {v : Value} (hv : v = .int .i64 j) : Rd b rv T j f (w.setCell ⟨b, 1, none⟩ v) := by
  subst hv; exact whole_set h 1 _
theorem Rd.setFail {b : Nat} {rv : Value} {T : ByteArray} {i : Nat} {f : Bool} {w : World} (h : Rd b rv T i f w) : Rd b rv T i true (w.setCell ⟨b, 2, none⟩ (.bool true)) := whole_set h 2 _
theorem Rd.setV {b : Nat} {rv : Value} {T : ByteArray} {i : Nat} {f : Bool} {w : World} (h : Rd b rv T i f w) (u : Value) : Rd b u T i f (w.setCell ⟨b, 3, none⟩ u) := whole_set h 3 _
theorem Rd.of {b : Nat} {rv : Value} {T : ByteArray} {i j : Nat} {f g : Bool} {w : World} (h : Rd b rv T i f w) (hi : i = j) (hf : f = g) : Rd b rv T j g w := by subst hi; subst hf; exact h
theorem Rd.kept {b c : Nat} {rv : Value} {T : ByteArray} {i : Nat} {f : Bool} {w w' : World} (h : Rd b rv T i f w) (k : Aside c w w') (hc : b ≠ c) : Rd b rv T i f w' := (k.block b (whole_lt h) hc).trans h
theorem Rd.alloc {b : Nat} {rv : Value} {T : ByteArray} {i : Nat} {f : Bool} {w : World} (h : Rd b rv T i f w) (o : Obj) : Rd b rv T i f (w.alloc o) := whole_alloc h o
theorem Rd.lt {b : Nat} {rv : Value} {T : ByteArray} {i : Nat} {f : Bool} {w : World} (h : Rd b rv T i f w) : b < w.heap.size := whole_lt h

/-- A list of bytes as a string. -/
def bs (l : List UInt8) : ByteArray := ⟨l.toArray⟩
theorem bs_list (l : List UInt8) : (bs l).data.toList = l := by simp [bs]
theorem bs_size (l : List UInt8) : (bs l).size = l.length := by simp [bs, ByteArray.size]
theorem bs_of (T : ByteArray) : bs T.data.toList = T := by simp [bs]
theorem bs_append (a b : List UInt8) : bs a ++ bs b = bs (a ++ b) := by
  apply ByteArray.ext; simp [bs]
theorem bs_extract (T : ByteArray) (i k : Nat) : T.extract i k = bs (cut T.data.toList i k) := by
  apply ByteArray.ext
  simp [bs, cut, ByteArray.data_extract]
  apply Array.ext'
  simp [List.extract_eq_take_drop]

end Go.Proofs.YtanknpmojblmcaaGreatDoor
