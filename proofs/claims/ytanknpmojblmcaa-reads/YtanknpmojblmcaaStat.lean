/-
  The station's small calls: goes, piece, lit, begun.
-/
import Derived.Test.YtanknpmojblmcaaAsF
import Derived.Test.YtanknpmojblmcaaRSpec
set_option linter.unusedSimpArgs false
set_option linter.unusedVariables false
namespace Go.Proofs.Ytanknpmojblmcaa
open Go.RowKit

/-- A station in memory. -/
def stC (s : ST) : Array Value := #[.int .i64 (s.wh : Int), .int .i64 (s.k : Int), .int .i64 (s.which : Int), .int .i64 (s.op : Int), .bool s.no, .int .i64 (s.hd : Int)]
def St (b : Nat) (s : ST) (w : World) : Prop := w.heap[b]? = some (.cells (stC s) 71 (0, 0))
theorem St.c {b : Nat} {s : ST} {w : World} (h : St b s w) (i : Nat) : w.cell? ⟨b, i, none⟩ = (stC s)[i]? := whole_cell h i
theorem St.z {b : Nat} {s : ST} {w : World} (h : St b s w) (k : Nat) : w.frozen? ⟨b, k, none⟩ = false := whole_frozen h k
theorem St.set {b : Nat} {s s' : ST} {w : World} (h : St b s w) (k : Nat) (v : Value) (e : (stC s).setIfInBounds k v = stC s') : St b s' (w.setCell ⟨b, k, none⟩ v) := by
  unfold St; rw [← e]; exact whole_set h k v
theorem St.alloc {b : Nat} {s : ST} {w : World} (h : St b s w) (o : Obj) : St b s (w.alloc o) := whole_alloc h o

/-- What a call of a station answers: true and the next station, or false. -/
def Ans (b : Nat) (o : Option ST) (w w' : World) (e : Ending) : Prop :=
  Aside b w w' ∧ ((∃ s, o = some s ∧ e = .returned (.bool true) ∧ St b s w') ∨ (o = none ∧ e = .returned (.bool false)))
theorem Ans.yes {b : Nat} {o : Option ST} {w w' : World} {s : ST} (h : Aside b w w') (ho : o = some s) (hs : St b s w') : Ans b o w w' (.returned (.bool true)) := ⟨h, Or.inl ⟨s, ho, rfl, hs⟩⟩
theorem Ans.no {b : Nat} {o : Option ST} {w w' : World} (h : Aside b w w') (ho : o = none) : Ans b o w w' (.returned (.bool false)) := ⟨h, Or.inr ⟨ho, rfl⟩⟩
theorem Ans.before {b : Nat} {o o' : Option ST} {w0 w w' : World} {e : Ending} (h : Ans b o w w' e) (k : Aside b w0 w) (ho : o' = o) : Ans b o' w0 w' e := by
  subst ho; exact ⟨k.trans h.1, h.2⟩

set_option maxHeartbeats 400000 in
theorem goes_any (b : Nat) (s : ST) (wh which : Nat) (x y : Int) (hx : x = (wh : Int)) (hy : y = (which : Int)) (w : World) (h : St b s w) :
    Calls Try.prog 57 #[.pointer (some ⟨b, 0, none⟩), .int .i64 x, .int .i64 y] w fun e w' => e = .returned (.bool true) ∧ St b (goS s wh which) w' ∧ Aside b w w' := by
  have c0 := h.c 0; have c1 := h.c 1; have c2 := h.c 2; have c4 := h.c 4
  have z0 := h.z 0; have z1 := h.z 1; have z2 := h.z 2; have z4 := h.z 4
  simp [stC] at c0 c1 c2 c4
  have HX : Hid (x = (wh : Int)) := hx
  have HY : Hid (y = (which : Int)) := hy
  clear hx hy
  go_enter Try.func57, Try.ntmps57
  go_wp2_with fail
  go_ret
  refine ⟨rfl, ?_, ?_⟩
  · rw [HX.out, HY.out]
    exact St.set (s := { s with wh := wh, which := which, k := 0 }) (St.set (s := { s with wh := wh, which := which }) (St.set (s := { s with wh := wh }) (h.set 0 _ rfl) 2 _ rfl) 1 _ rfl) 4 _ rfl
  · exact ((((Aside.refl b w).setCell (Or.inl rfl) _).setCell (Or.inl rfl) _).setCell (Or.inl rfl) _).setCell (Or.inl rfl) _

set_option maxHeartbeats 8000000 in
theorem piece_any (k : Nat) (hk : k ≤ 12) (w : World) :
    Calls Try.prog 56 #[.int .i64 (k : Int)] w fun e w' => e = .returned (.string (bs (pieceL k))) ∧ ∃ o, w' = w.alloc o := by
  obtain rfl | rfl | rfl | rfl | rfl | rfl | rfl | rfl | rfl | rfl | rfl | rfl | rfl : k = 0 ∨ k = 1 ∨ k = 2 ∨ k = 3 ∨ k = 4 ∨ k = 5 ∨ k = 6 ∨ k = 7 ∨ k = 8 ∨ k = 9 ∨ k = 10 ∨ k = 11 ∨ k = 12 := by omega
  all_goals
    go_enter Try.func56, Try.ntmps56
    go_wp2_with fail
    go_ret
    exact ⟨rfl, _, rfl⟩

end Go.Proofs.Ytanknpmojblmcaa
