/-
  The reader's lay and ref: the steps of a want.
-/
import Derived.Test.YtanknpmojblmcaaGreatDoorRef
import Derived.Deep.RegionHeld3
import Derived.Deep.AppendLies
import Derived.Deep.RegionLaw
import Derived.Deep.DrawnRows
import Derived.OneCell
set_option linter.unusedSimpArgs false
set_option linter.unusedVariables false
namespace Go.Proofs.YtanknpmojblmcaaGreatDoor
open Go.RowKit

/-- The cells of a step; of a list of steps. -/
def spC (x : Stp) : Array Value := #[.int .i64 (x.op : Int), .int .i64 (x.pos : Int), .string (bs x.name), .bool x.nbd, .int .i64 (x.num : Int)]
def flatS (S : List Stp) : List Value := (S.map fun x => (spC x).toList).flatten
theorem flatS_snoc (S : List Stp) (x : Stp) : flatS (S ++ [x]) = flatS S ++ (spC x).toList := by simp [flatS]
theorem infoStep : (Tryz.prog.info? 112).map (fun i => (i.zero, i.size, i.bytes)) = some (some (.agg (spC (stp 0))), 5, 48) := by kernel_rfl

/-- The reader's row of steps: it lies behind the reader. -/
def Sr (b : Nat) (rv : Value) (S : List Stp) (w : World) : Prop := w.ownsRow (b + 1) 112 5 rv S.length (flatS S)
theorem Sr.form {b : Nat} {rv : Value} {S : List Stp} {w : World} (h : Sr b rv S w) : ∃ pa pc, rv = .slice pa S.length pc := by
  rcases h.2 with ⟨rfl, hn⟩ | ⟨g, cap, cur, rfl, _⟩
  · rw [hn]; exact ⟨_, _, rfl⟩
  · exact ⟨_, _, rfl⟩
theorem Sr.ne {b : Nat} {rv : Value} {S : List Stp} {w : World} (h : Sr b rv S w) : rv.ownBlock ≠ some b := by
  intro e
  have := (h.lt b e).1; omega
theorem Sr.other {b k : Nat} {rv : Value} {S : List Stp} {w : World} {c : Array Value} {t : TypeId} (h : Sr b rv S w) (hk : w.heap[k]? = some (.cells c t (0, 0))) (ht : t ≠ 112) : rv.ownBlock ≠ some k := row_ne h hk ht
theorem Sr.nil (b : Nat) (w : World) : Sr b (.slice none 0 0) [] w := World.ownsRow_nil _ _ _ _

/-- All blocks that there were, the reader's and its row of steps aside, are as they were; the row is the same or new. -/
structure AsV (b : Nat) (v v' : Value) (w w' : World) : Prop where
  os : w'.os = w.os
  tape : w'.tape = w.tape
  output : w'.output = w.output
  size : w.heap.size ≤ w'.heap.size
  block : ∀ k, k < w.heap.size → k ≠ b → v.ownBlock ≠ some k → w'.heap[k]? = w.heap[k]?
  own : ∀ k, v'.ownBlock = some k → v.ownBlock = some k ∨ w.heap.size ≤ k
theorem AsV.of {b : Nat} {v : Value} {w w' : World} (h : Aside b w w') : AsV b v v w w' := ⟨h.os, h.tape, h.output, h.size, fun k hk hb _ => h.block k hk hb, fun k hk => Or.inl hk⟩
theorem AsV.refl (b : Nat) (v : Value) (w : World) : AsV b v v w w := AsV.of (Aside.refl b w)
theorem AsV.trans {b : Nat} {v u t : Value} {x y z : World} (h : AsV b v u x y) (k : AsV b u t y z) : AsV b v t x z :=
  ⟨k.os.trans h.os, k.tape.trans h.tape, k.output.trans h.output, Nat.le_trans h.size k.size,
   fun i hi hb hv => (k.block i (Nat.lt_of_lt_of_le hi h.size) hb (fun e => by rcases h.own i e with q | q; exact hv q; omega)).trans (h.block i hi hb hv),
   fun i hi => by
     rcases k.own i hi with q | q
     · exact h.own i q
     · right; have := h.size; omega⟩
theorem AsV.then {b : Nat} {v u : Value} {x y z : World} (h : AsV b v u x y) (k : Aside b y z) : AsV b v u x z := h.trans (AsV.of k)
theorem AsV.alloc {b : Nat} {v u : Value} {x y : World} (h : AsV b v u x y) (o : Obj) : AsV b v u x (y.alloc o) := h.then ((Aside.refl b y).alloc o)
theorem AsV.drewN {b : Nat} {v u : Value} {x y : World} (h : AsV b v u x y) (n : Nat) : AsV b v u x (y.drewN n) := h.then ((Aside.refl b y).drewN n)
theorem AsV.setCell {b : Nat} {v u : Value} {x y : World} (h : AsV b v u x y) {p : Addr} (hp : p.block = b ∨ x.heap.size ≤ p.block) (c : Value) : AsV b v u x (y.setCell p c) :=
  ⟨h.os, h.tape, h.output, by simpa [World.setCell] using h.size, fun k hk hb hv => by
    rw [Below.heap_setCell _ _ _ _ (by omega)]; exact h.block k hk hb hv, h.own⟩
/-- Behind a block that was laid first. -/
theorem AsV.below {b : Nat} {v u : Value} {w w1 : World} {o : Obj} (h : AsV b v u (w.alloc o) w1) : AsV b v u w w1 := (AsV.of ((Aside.refl b w).alloc o)).trans h
theorem AsV.aside {b : Nat} {u : Value} {w w1 : World} (h : AsV b (.slice none 0 0) u w w1) : Aside b w w1 := ⟨h.os, h.tape, h.output, h.size, fun k hk hb => h.block k hk hb (by simp [Value.ownBlock])⟩
/-- A row stays where only the reader, or a block that is none of it, turned. -/
theorem Sr.kept {b : Nat} {rv : Value} {S : List Stp} {w w' : World} (h : Sr b rv S w) (k : Aside b w w') : Sr b rv S w' := owns_aside h k (by omega)
theorem Sr.alloc {b : Nat} {rv : Value} {S : List Stp} {w : World} (h : Sr b rv S w) (o : Obj) : Sr b rv S (w.alloc o) := World.ownsRow.alloc h o
theorem Sr.drewN {b : Nat} {rv : Value} {S : List Stp} {w : World} (h : Sr b rv S w) (n : Nat) : Sr b rv S (w.drewN n) := h
theorem Sr.setCell {b : Nat} {rv : Value} {S : List Stp} {w : World} (h : Sr b rv S w) {p : Addr} (hp : rv.ownBlock ≠ some p.block) (u : Value) : Sr b rv S (w.setCell p u) := ownsRow_setCell_other h hp u

attribute [local go_sem ↓] Go.wp_at_zero Go.wp_at_succ
set_option maxRecDepth 100000 in
set_option maxHeartbeats 4000000 in
theorem laySt_any {rv : Value} (b i : Nat) (f : Bool) (T : ByteArray) (S : List Stp) (x : Stp) (w : World) (h : Rd b rv T i f w) (hS : Sr b rv S w) (hl : S.length ≤ 5000) :
    Calls Tryz.prog 146 #[.pointer (some ⟨b, 0, none⟩), .agg (spC x)] w fun e w' => e = .returned (.tuple #[]) ∧ ∃ rv', Rd b rv' T i f w' ∧ Sr b rv' (S ++ [x]) w' ∧ AsV b rv rv' w w' := by
  obtain ⟨i0, hi, hz0, hz1, hz2⟩ := info_parts infoStep
  obtain ⟨pa, pc, rfl⟩ := hS.form
  have hbl := h.lt
  unfold spC
  go_enter Tryz.func146, Tryz.ntmps146
  go_wp2_with fail
  have A0 : AsV b (.slice pa S.length pc) (.slice pa S.length pc) w (w.alloc (.cells #[.int .i64 (x.op : Int), .int .i64 (x.pos : Int), .string (bs x.name), .bool x.nbd, .int .i64 (x.num : Int)] 112)) := (AsV.refl _ _ _).alloc _
  have Y := whole_new w (.cells #[.int .i64 (x.op : Int), .int .i64 (x.pos : Int), .string (bs x.name), .bool x.nbd, .int .i64 (x.num : Int)] 112 (0, 0))
  have r1 := h.alloc (.cells #[.int .i64 (x.op : Int), .int .i64 (x.pos : Int), .string (bs x.name), .bool x.nbd, .int .i64 (x.num : Int)] 112)
  have r2 := World.ownsRow.alloc hS (.cells #[.int .i64 (x.op : Int), .int .i64 (x.pos : Int), .string (bs x.name), .bool x.nbd, .int .i64 (x.num : Int)] 112)
  have ay : (Value.slice pa S.length pc).ownBlock ≠ some w.heap.size := by intro e; have := (hS.lt _ e).2; omega
  generalize w.alloc (.cells #[.int .i64 (x.op : Int), .int .i64 (x.pos : Int), .string (bs x.name), .bool x.nbd, .int .i64 (x.num : Int)] 112) = x2 at *
  generalize hyb : w.heap.size = yb at *
  have HW : Hid (w.heap.size = yb) := hyb
  clear hyb
  have ah : (Value.slice pa S.length pc).ownBlock ≠ some b := hS.ne
  have y0 := whole_cell Y 0; have y1 := whole_cell Y 1; have y2 := whole_cell Y 2; have y3 := whole_cell Y 3; have y4 := whole_cell Y 4
  have m3 := r1.c3
  have z3 := r1.z 3
  simp at y0 y1 y2 y3 y4
  have hyx := whole_lt Y
  have hhx := r1.lt
  have fz : ∀ o, (x2.alloc o).drew.frozen? ⟨b, 3, none⟩ = false := fun o => whole_frozen (w := (x2.alloc o).drew) (whole_alloc r1 o) 3
  go_region_law
    ((refine step_append_lies _ (by rfl) _ _ _ (by rfl) (b + 1) 112 i0 _ 5 48 Tryz.underlying62 hi hz0 hz1 hz2 rfl (by omega) (.slice pa S.length pc) S.length (flatS S) (by rfl) ((r2.alloc _).drew)
        ⟨x2.heap.size, 0, none⟩ 1 1 [.int .i64 (x.op : Int), .int .i64 (x.pos : Int), .string (bs x.name), .bool x.nbd, .int .i64 (x.num : Int)] (by rfl) (by rfl) (World.news_of_block (cs := #[.int .i64 (x.op : Int), .int .i64 (x.pos : Int), .string (bs x.name), .bool x.nbd, .int .i64 (x.num : Int)]) (t := 112) (fr := (0, 0)) (heap_alloc_new x2 _)) (by simp [Value.oneCell'])
        (by omega) (by unfold maxLen; omega) (by omega) (by simp; omega) (x2.heap.size + 1) (by simp) ?_; intro g3 cap3 w3 hown3 hgrow3 hat3 hlt3; have m3 : Rd b (.slice pa S.length pc) T i f w3 := (hgrow3.block b (by simp; omega) (Ne.symm ah)).trans (whole_alloc r1 _); have m3c := m3.c3; have m3z := m3.z 3))
  all_goals
    go_wp2_with fail
    go_end0
    refine ⟨rfl, .slice (some ⟨g3, 0, none⟩) (S.length + 1) cap3, m3.setV _, ?_, ?_⟩
    · have := owns_set' hown3 3 (.slice (some ⟨g3, 0, none⟩) (S.length + 1) cap3)
      unfold Sr
      rw [flatS_snoc]
      simpa [spC] using this
    · refine A0.trans ?_
      have q : AsV b (.slice pa S.length pc) (.slice (some ⟨g3, 0, none⟩) (S.length + 1) cap3) x2 w3 := by
        refine ⟨hgrow3.os, hgrow3.tape, hgrow3.output, ?_, ?_, ?_⟩
        · have := hgrow3.size; simp at this; omega
        · intro k hk hb hv
          rw [hgrow3.block k (by simp; omega) (Ne.symm hv)]
          exact Below.heap_alloc _ _ _ hk
        · intro k hk
          simp [Value.ownBlock] at hk
          subst hk
          rcases hat3 with e | e
          · exact Or.inl e
          · right; omega
      exact q.setCell (Or.inl rfl) _

/-- A step that is being made. -/
def Bx (c : Nat) (x : Stp) (w : World) : Prop := w.heap[c]? = some (.cells (spC x) 112 (0, 0))
theorem Bx.c {c : Nat} {x : Stp} {w : World} (h : Bx c x w) (i : Nat) : w.cell? ⟨c, i, none⟩ = (spC x)[i]? := whole_cell h i
theorem Bx.z {c : Nat} {x : Stp} {w : World} (h : Bx c x w) (i : Nat) : w.frozen? ⟨c, i, none⟩ = false := whole_frozen h i
theorem Bx.set {c : Nat} {x x' : Stp} {w : World} (h : Bx c x w) (k : Nat) (v : Value) (e : (spC x).setIfInBounds k v = spC x') : Bx c x' (w.setCell ⟨c, k, none⟩ v) := by
  unfold Bx; rw [← e]; exact whole_set h k v
theorem Bx.kept {b c : Nat} {x : Stp} {w w' : World} (h : Bx c x w) (k : Aside b w w') (hc : c ≠ b) : Bx c x w' := (k.block c (whole_lt h) hc).trans h

set_option maxHeartbeats 2000000 in
theorem ref_any {rv : Value} (b i op : Nat) (f : Bool) (T : ByteArray) (S : List Stp) (w : World) (h : Rd b rv T i f w) (hS : Sr b rv S w) (hl : S.length ≤ 5000) (hT : T.size ≤ 600) (hi : i ≤ T.size) :
    Calls Tryz.prog 158 #[.pointer (some ⟨b, 0, none⟩), .int .i64 (op : Int)] w fun e w' => e = .returned (.tuple #[]) ∧ ∃ rv', Rd b rv' T (refS T.data.toList (i, f)).1 (refS T.data.toList (i, f)).2 w' ∧ Sr b rv' (S ++ [refQ T.data.toList op (i, f)]) w' ∧ AsV b rv rv' w w' := by
  have hb := h.lt
  have hne : w.heap.size ≠ b := by omega
  have h1 := h.c1
  have hro : rv.ownBlock ≠ some w.heap.size := by intro e; have := (hS.lt _ e).2; omega
  go_enter Tryz.func158, Tryz.ntmps158
  go_wp2_with fail
  have X1 : Bx w.heap.size ⟨op, i, [], false, 0⟩ (w.alloc (.cells #[.int .i64 (op : Int), .int .i64 (i : Int), .string ⟨#[]⟩, .bool false, .int .i64 0] 112)) := whole_new w _
  have r1 : Rd b rv T i f (w.alloc (.cells #[.int .i64 (op : Int), .int .i64 (i : Int), .string ⟨#[]⟩, .bool false, .int .i64 0] 112)) := h.alloc _
  have s1 : Sr b rv S (w.alloc (.cells #[.int .i64 (op : Int), .int .i64 (i : Int), .string ⟨#[]⟩, .bool false, .int .i64 0] 112)) := hS.alloc _
  have a1 : Aside b w (w.alloc (.cells #[.int .i64 (op : Int), .int .i64 (i : Int), .string ⟨#[]⟩, .bool false, .int .i64 0] 112)) := (Aside.refl b w).alloc _
  generalize w.alloc (.cells #[.int .i64 (op : Int), .int .i64 (i : Int), .string ⟨#[]⟩, .bool false, .int .i64 0] 112) = w1 at *
  generalize hcc : w.heap.size = c at *
  have HC : Hid (w.heap.size = c) := hcc
  have hcw : w.heap.size ≤ c := by omega
  clear hcc h1 h hS
  refine (name_any b i f T _ r1 hT hi).mono ?_
  rintro e w2 ⟨he, r2, a2⟩
  rw [bs_extract] at he
  subst he
  have HQ : Hid (refQ T.data.toList op (i, f) = if sk T.data.toList 91 (nmS T.data.toList (i, f)) then ⟨op, i, cut T.data.toList i (nmS T.data.toList (i, f)).1, true, numV T.data.toList ((nmS T.data.toList (i, f)).1 + 1, (nmS T.data.toList (i, f)).2)⟩ else ⟨op, i, cut T.data.toList i (nmS T.data.toList (i, f)).1, false, 0⟩) := rfl
  have HR : Hid (refS T.data.toList (i, f) = if sk T.data.toList 91 (nmS T.data.toList (i, f)) then wd T.data.toList [93] (numS T.data.toList ((nmS T.data.toList (i, f)).1 + 1, (nmS T.data.toList (i, f)).2)) else nmS T.data.toList (i, f)) := rfl
  generalize nmS T.data.toList (i, f) = q1 at *
  obtain ⟨i1, f1⟩ := q1
  dsimp only at r2
  have X2 := X1.kept a2 hne
  have s2 := s1.kept a2
  replace a2 := a1.trans a2
  clear X1 s1 r1 a1
  have k2 := X2.c 2; have z2 := X2.z 2
  simp [spC] at k2
  go_wp2_with fail
  generalize hnm : cut T.data.toList i i1 = nm at *
  have r3 : Rd b rv T i1 f1 (w2.setCell ⟨c, 2, none⟩ (.string (bs nm))) := whole_set_ne r2 ⟨c, 2, none⟩ hne _
  have X3 : Bx c ⟨op, i, nm, false, 0⟩ (w2.setCell ⟨c, 2, none⟩ (.string (bs nm))) := X2.set 2 _ rfl
  have s3 : Sr b rv S (w2.setCell ⟨c, 2, none⟩ (.string (bs nm))) := s2.setCell hro _
  have a3 : Aside b w (w2.setCell ⟨c, 2, none⟩ (.string (bs nm))) := a2.setCell (Or.inr hcw) _
  generalize w2.setCell ⟨c, 2, none⟩ (.string (bs nm)) = w3 at *
  clear k2 z2 hnm X2 s2 r2 a2
  refine (skip_any b i1 91 f1 T _ r3 hT).mono ?_
  rintro e w4 ⟨rfl, r4, a4⟩
  have X4 := X3.kept a4 hne
  have s4 := s3.kept a4
  replace a4 := a3.trans a4
  clear X3 s3 r3 a3
  have hsl : ∀ (j : Nat) (g : Bool) (y : Stp) (w9 : World), Rd b rv T j g w9 → Sr b rv S w9 → Aside b w w9 → refS T.data.toList (i, f) = (j, g) → refQ T.data.toList op (i, f) = y →
      Calls Tryz.prog 146 #[.pointer (some ⟨b, 0, none⟩), .agg (spC y)] w9 fun e w' => e = .returned (.tuple #[]) ∧ ∃ rv', Rd b rv' T (refS T.data.toList (i, f)).1 (refS T.data.toList (i, f)).2 w' ∧ Sr b rv' (S ++ [refQ T.data.toList op (i, f)]) w' ∧ AsV b rv rv' w w' := by
    intro j g y w9 e1 e2 e3 e4 e5
    refine (laySt_any b j g T S y w9 e1 e2 hl).mono ?_
    rintro e w' ⟨rfl, rv', p1, p2, p3⟩
    rw [e4, e5]
    exact ⟨rfl, rv', p1, p2, (AsV.of e3).trans p3⟩
  have HSL : Hid _ := hsl
  clear hsl
  cases hs : sk T.data.toList 91 (i1, f1) with
  | false =>
    have HR2 : Hid (refS T.data.toList (i, f) = (i1, f1)) := by show _ = _; rw [HR.out, hs]; rfl
    have HQ2 : Hid (refQ T.data.toList op (i, f) = ⟨op, i, nm, false, 0⟩) := by show _ = _; rw [HQ.out, hs]; rfl
    have r5 : Rd b rv T i1 f1 w4 := r4.of (by simp [skS, hs]) (by simp [skS, hs])
    have c0 := X4.c 0; have c1 := X4.c 1; have c2 := X4.c 2; have c3 := X4.c 3; have c4 := X4.c 4
    simp [spC] at c0 c1 c2 c3 c4
    clear hs HR HQ r4
    go_wp2_with fail
    refine (HSL.out i1 f1 ⟨op, i, nm, false, 0⟩ _ r5 s4 a4 HR2.out HQ2.out).mono ?_
    rintro e w5 ⟨rfl, p⟩
    go_wp2_with fail
    go_end0
    exact ⟨rfl, p⟩
  | true =>
    have HR2 : Hid (refS T.data.toList (i, f) = wd T.data.toList [93] (numS T.data.toList (i1 + 1, f1))) := by show _ = _; rw [HR.out, hs]; rfl
    have HQ2 : Hid (refQ T.data.toList op (i, f) = ⟨op, i, nm, true, numV T.data.toList (i1 + 1, f1)⟩) := by show _ = _; rw [HQ.out, hs]; rfl
    have r5 : Rd b rv T (i1 + 1) f1 w4 := r4.of (by simp [skS, hs]) (by simp [skS, hs])
    clear hs HR HQ r4
    have k3 := X4.c 3; have z3 := X4.z 3
    simp [spC] at k3
    go_wp2_with fail
    have r6 : Rd b rv T (i1 + 1) f1 (w4.setCell ⟨c, 3, none⟩ (.bool true)) := whole_set_ne r5 ⟨c, 3, none⟩ hne _
    have X6 : Bx c ⟨op, i, nm, true, 0⟩ (w4.setCell ⟨c, 3, none⟩ (.bool true)) := X4.set 3 _ rfl
    have s6 : Sr b rv S (w4.setCell ⟨c, 3, none⟩ (.bool true)) := s4.setCell hro _
    have a6 : Aside b w (w4.setCell ⟨c, 3, none⟩ (.bool true)) := a4.setCell (Or.inr hcw) _
    generalize w4.setCell ⟨c, 3, none⟩ (.bool true) = w6 at *
    clear k3 z3 X4 s4 r5 a4
    refine (rnumber_any b (i1 + 1) f1 T _ r6 hT).mono ?_
    rintro e w7 ⟨rfl, r7, a7⟩
    have X7 := X6.kept a7 hne
    have s7 := s6.kept a7
    replace a7 := a6.trans a7
    clear X6 s6 r6 a6
    generalize numS T.data.toList (i1 + 1, f1) = q2 at *
    obtain ⟨i2, f2⟩ := q2
    generalize numV T.data.toList (i1 + 1, f1) = nv at *
    have k4 := X7.c 4; have z4 := X7.z 4
    simp [spC] at k4
    go_wp2_with fail
    have r8 : Rd b rv T i2 f2 (w7.setCell ⟨c, 4, none⟩ (.int .i64 (nv : Int))) := whole_set_ne r7 ⟨c, 4, none⟩ hne _
    have X8 : Bx c ⟨op, i, nm, true, nv⟩ (w7.setCell ⟨c, 4, none⟩ (.int .i64 (nv : Int))) := X7.set 4 _ rfl
    have s8 : Sr b rv S (w7.setCell ⟨c, 4, none⟩ (.int .i64 (nv : Int))) := s7.setCell hro _
    have a8 : Aside b w (w7.setCell ⟨c, 4, none⟩ (.int .i64 (nv : Int))) := a7.setCell (Or.inr hcw) _
    generalize w7.setCell ⟨c, 4, none⟩ (.int .i64 (nv : Int)) = w8 at *
    clear k4 z4 X7 s7 r7 a7
    refine (word_any b i2 f2 T ⟨#[93]⟩ _ r8 hT (by decide)).mono ?_
    rintro e w9 ⟨rfl, r9, a9⟩
    replace r9 : Rd b rv T (wd T.data.toList [93] (i2, f2)).1 (wd T.data.toList [93] (i2, f2)).2 w9 := r9
    have X9 := X8.kept a9 hne
    have s9 := s8.kept a9
    replace a9 := a8.trans a9
    clear X8 s8 r8 a8
    have c0 := X9.c 0; have c1 := X9.c 1; have c2 := X9.c 2; have c3 := X9.c 3; have c4 := X9.c 4
    simp [spC] at c0 c1 c2 c3 c4
    go_wp2_with fail
    refine (HSL.out _ _ ⟨op, i, nm, true, nv⟩ _ r9 s9 a9 HR2.out HQ2.out).mono ?_
    rintro e w5 ⟨rfl, p⟩
    go_wp2_with fail
    go_end0
    exact ⟨rfl, p⟩

end Go.Proofs.YtanknpmojblmcaaGreatDoor
