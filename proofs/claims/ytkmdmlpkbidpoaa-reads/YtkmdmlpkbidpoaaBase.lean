/-
  Small facts on worlds for the walks: a block that is known whole, and all other blocks as they were.
-/
import Derived.Test.YtkmdmlpkbidpoaaProg
import Derived.Test.YtkmdmlpkbidpoaaSpec
import Derived.WalkKit
import Derived.WalkSpells
import Derived.WalkLawsBesides
import Derived.Deep.QuietTactic
import Derived.BigQuiet
namespace Go.Proofs.Ytkmdmlpkbidpoaa
open Go.RowKit

/-- All blocks that there were, block b aside, are as they were. -/
structure Aside (b : Nat) (w w' : World) : Prop where
  os : w'.os = w.os
  tape : w'.tape = w.tape
  output : w'.output = w.output
  size : w.heap.size ≤ w'.heap.size
  block : ∀ k, k < w.heap.size → k ≠ b → w'.heap[k]? = w.heap[k]?

theorem Aside.refl (b : Nat) (w : World) : Aside b w w := ⟨rfl, rfl, rfl, Nat.le_refl _, fun _ _ _ => rfl⟩
theorem Aside.trans {b : Nat} {x y z : World} (h : Aside b x y) (k : Aside b y z) : Aside b x z :=
  ⟨k.os.trans h.os, k.tape.trans h.tape, k.output.trans h.output, Nat.le_trans h.size k.size,
   fun i hi hb => (k.block i (Nat.lt_of_lt_of_le hi h.size) hb).trans (h.block i hi hb)⟩
theorem Aside.drewN {b : Nat} {x y : World} (h : Aside b x y) (n : Nat) : Aside b x (y.drewN n) := ⟨h.os, h.tape, h.output, h.size, h.block⟩
theorem Aside.drew {b : Nat} {x y : World} (h : Aside b x y) : Aside b x y.drew := ⟨h.os, h.tape, h.output, h.size, h.block⟩
theorem Aside.alloc {b : Nat} {x y : World} (h : Aside b x y) (o : Obj) : Aside b x (y.alloc o) :=
  h.trans ⟨rfl, rfl, rfl, by simp, fun k hk _ => Below.heap_alloc _ _ _ hk⟩
theorem Aside.setCell {b : Nat} {x y : World} (h : Aside b x y) {p : Addr} (hp : p.block = b ∨ x.heap.size ≤ p.block) (u : Value) : Aside b x (y.setCell p u) :=
  ⟨h.os, h.tape, h.output, by simpa [World.setCell] using h.size, fun k hk hb => by
    rw [Below.heap_setCell _ _ _ _ (by omega)]; exact h.block k hk hb⟩
theorem Aside.cell {b : Nat} {w w' : World} (h : Aside b w w') {p : Addr} (hp : p.block < w.heap.size) (hb : p.block ≠ b) : w'.cell? p = w.cell? p :=
  World.cell?_of_block (w := w) (h.block p.block hp hb)
theorem Aside.frozen {b : Nat} {w w' : World} (h : Aside b w w') {p : Addr} (hp : p.block < w.heap.size) (hb : p.block ≠ b) : w'.frozen? p = w.frozen? p :=
  World.frozen?_of_block (w := w) (h.block p.block hp hb)

/-- A struct's block whole: what each cell reads, and that none is frozen. -/
theorem whole_cell {w : World} {b : Nat} {c : Array Value} {t : TypeId} (h : w.heap[b]? = some (.cells c t (0, 0))) (i : Nat) : w.cell? ⟨b, i, none⟩ = c[i]? := by
  simp [World.cell?, h]
theorem whole_frozen {w : World} {b : Nat} {c : Array Value} {t : TypeId} (h : w.heap[b]? = some (.cells c t (0, 0))) (i : Nat) : w.frozen? ⟨b, i, none⟩ = false := by
  simp [World.frozen?, h]
theorem whole_lt {w : World} {b : Nat} {o : Obj} (h : w.heap[b]? = some o) : b < w.heap.size := by
  rw [Array.getElem?_eq_some_iff] at h; exact h.1
theorem whole_set {w : World} {b : Nat} {c : Array Value} {t : TypeId} (h : w.heap[b]? = some (.cells c t (0, 0))) (i : Nat) (v : Value) :
    (w.setCell ⟨b, i, none⟩ v).heap[b]? = some (.cells (c.setIfInBounds i v) t (0, 0)) := by
  simp [World.setCell, Array.getElem?_modify, h]
theorem whole_set_ne {w : World} {b : Nat} {o : Obj} (h : w.heap[b]? = some o) (p : Addr) (hp : p.block ≠ b) (v : Value) :
    (w.setCell p v).heap[b]? = some o := by
  rw [Below.heap_setCell _ _ _ _ (by omega)]; exact h
theorem whole_alloc {w : World} {b : Nat} {o : Obj} (h : w.heap[b]? = some o) (o' : Obj) : (w.alloc o').heap[b]? = some o := by
  rw [Below.heap_alloc _ _ _ (whole_lt h)]; exact h
theorem whole_new (w : World) (o : Obj) : (w.alloc o).heap[w.heap.size]? = some o := by
  show (w.heap.push o)[w.heap.size]? = _
  simp

/-- The reader of the program: its text, its place, whether it failed. -/
def Rd (b : Nat) (T : ByteArray) (i : Nat) (f : Bool) (w : World) : Prop :=
  w.heap[b]? = some (.cells #[.string T, .int .i64 i, .bool f] 50 (0, 0))

theorem Rd.c0 {b : Nat} {T : ByteArray} {i : Nat} {f : Bool} {w : World} (h : Rd b T i f w) : w.cell? ⟨b, 0, none⟩ = some (.string T) := by rw [whole_cell h]; rfl
theorem Rd.c1 {b : Nat} {T : ByteArray} {i : Nat} {f : Bool} {w : World} (h : Rd b T i f w) : w.cell? ⟨b, 1, none⟩ = some (.int .i64 i) := by rw [whole_cell h]; rfl
theorem Rd.c2 {b : Nat} {T : ByteArray} {i : Nat} {f : Bool} {w : World} (h : Rd b T i f w) : w.cell? ⟨b, 2, none⟩ = some (.bool f) := by rw [whole_cell h]; rfl
theorem Rd.z {b : Nat} {T : ByteArray} {i : Nat} {f : Bool} {w : World} (h : Rd b T i f w) (k : Nat) : w.frozen? ⟨b, k, none⟩ = false := whole_frozen h k
theorem Rd.drewN {b : Nat} {T : ByteArray} {i : Nat} {f : Bool} {w : World} (h : Rd b T i f w) (n : Nat) : Rd b T i f (w.drewN n) := h
theorem Rd.setAt {b : Nat} {T : ByteArray} {i : Nat} {f : Bool} {w : World} (h : Rd b T i f w) (j : Nat) {v : Value} (hv : v = .int .i64 j) : Rd b T j f (w.setCell ⟨b, 1, none⟩ v) := by
  subst hv; exact whole_set h 1 _
theorem Rd.setFail {b : Nat} {T : ByteArray} {i : Nat} {f : Bool} {w : World} (h : Rd b T i f w) : Rd b T i true (w.setCell ⟨b, 2, none⟩ (.bool true)) := whole_set h 2 _
theorem Rd.of {b : Nat} {T : ByteArray} {i j : Nat} {f g : Bool} {w : World} (h : Rd b T i f w) (hi : i = j) (hf : f = g) : Rd b T j g w := by subst hi; subst hf; exact h
theorem Rd.kept {b c : Nat} {T : ByteArray} {i : Nat} {f : Bool} {w w' : World} (h : Rd b T i f w) (k : Aside c w w') (hc : b ≠ c) : Rd b T i f w' := (k.block b (whole_lt h) hc).trans h
theorem Rd.alloc {b : Nat} {T : ByteArray} {i : Nat} {f : Bool} {w : World} (h : Rd b T i f w) (o : Obj) : Rd b T i f (w.alloc o) := whole_alloc h o
theorem Rd.lt {b : Nat} {T : ByteArray} {i : Nat} {f : Bool} {w : World} (h : Rd b T i f w) : b < w.heap.size := whole_lt h

end Go.Proofs.Ytkmdmlpkbidpoaa
