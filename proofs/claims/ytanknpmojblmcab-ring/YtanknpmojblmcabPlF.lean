/-
  A system in memory: what of it may change, and what its rows hold.
-/
import Derived.Test.YtanknpmojblmcabPlD
import Derived.Test.YtanknpmojblmcabPlE
set_option linter.unusedSimpArgs false
set_option linter.unusedVariables false
namespace Go.Proofs.Ytanknpmojblmcab
open Go.RowKit

/-- Only blocks of D have changed. -/
structure Keep (D : Nat → Prop) (w w' : World) : Prop where
  os : w'.os = w.os
  tape : w'.tape = w.tape
  output : w'.output = w.output
  size : w.heap.size ≤ w'.heap.size
  block : ∀ k, ¬ D k → w'.heap[k]? = w.heap[k]?
theorem Keep.refl (D : Nat → Prop) (w : World) : Keep D w w := ⟨rfl, rfl, rfl, Nat.le_refl _, fun _ _ => rfl⟩
theorem Keep.trans {D : Nat → Prop} {x y z : World} (a : Keep D x y) (b : Keep D y z) : Keep D x z :=
  ⟨b.os.trans a.os, b.tape.trans a.tape, b.output.trans a.output, Nat.le_trans a.size b.size, fun k hk => (b.block k hk).trans (a.block k hk)⟩
theorem Keep.below {D : Nat → Prop} {w w' : World} (h : Below w.heap.size w w') (hd : ∀ k, w.heap.size ≤ k → D k) : Keep D w w' :=
  ⟨h.os, h.tape, h.output, h.size, fun k hk => h.block k (by
    rcases Nat.lt_or_ge k w.heap.size with h1 | h1
    · exact h1
    · exact absurd (hd k h1) hk)⟩
theorem Keep.setCell {D : Nat → Prop} {x y : World} (h : Keep D x y) {p : Addr} (hp : D p.block) (u : Value) : Keep D x (y.setCell p u) :=
  ⟨h.os, h.tape, h.output, by simpa using h.size, fun k hk => (Below.heap_setCell _ _ _ _ (fun e => hk (by rw [e]; exact hp))).trans (h.block k hk)⟩
theorem Keep.grown {D : Nat → Prop} {x y z : World} {row : Option Nat} (h : Keep D x y) (g : y.grownBy z row) (hr : ∀ k, row = some k → D k) (hd : ∀ k, y.heap.size ≤ k → D k) : Keep D x z :=
  ⟨g.os.trans h.os, g.tape.trans h.tape, g.output.trans h.output, Nat.le_trans h.size g.size, fun k hk => (g.block k (by
    rcases Nat.lt_or_ge k y.heap.size with h1 | h1
    · exact h1
    · exact absurd (hd k h1) hk) (fun e => hk (hr k e.symm))).trans (h.block k hk)⟩
theorem Keep.drewN {D : Nat → Prop} {x y : World} (h : Keep D x y) (n : Nat) : Keep D x (y.drewN n) := ⟨h.os, h.tape, h.output, h.size, h.block⟩

theorem owns_same {w w' : World} {base : Nat} {e : TypeId} {size : Nat} {v : Value} {n : Nat} {xs : List Value} (h : w.ownsRow base e size v n xs) (k : ∀ g, v.ownBlock = some g → w'.heap[g]? = w.heap[g]?) : w'.ownsRow base e size v n xs := by
  obtain ⟨h1, h2 | ⟨g, cap, cur, rfl, h4, h5, h6⟩⟩ := h
  · exact ⟨h1, Or.inl h2⟩
  · exact ⟨h1, Or.inr ⟨g, cap, cur, rfl, h4, (k g rfl).trans h5, h6⟩⟩

/-- What a system is. -/
structure PS where
  gs : List GV
  nodes : Nat
  now : Int
  js : List PJ
  qs : List Nat

structure SM (D : Nat → Prop) (s : Nat) (p : PS) (gv jv qv : Value) (w : World) : Prop where
  pl : Pl s gv p.nodes p.now jv qv w
  gr : w.ownsRow 0 81 5 gv p.gs.length (flatG p.gs)
  jr : w.ownsRow 0 97 6 jv p.js.length (flatP p.js)
  qr : w.ownsRow 0 3 1 qv p.qs.length (p.qs.map iV)
  ds : D s
  dg : ∀ g, gv.ownBlock = some g → D g
  dj : ∀ g, jv.ownBlock = some g → D g
  dq : ∀ g, qv.ownBlock = some g → D g
  dom : ∀ k, w.heap.size ≤ k → D k

variable {D : Nat → Prop} {s : Nat} {p : PS} {gv jv qv : Value} {w w' : World}

theorem SM.below (h : SM D s p gv jv qv w) (k : Below w.heap.size w w') : SM D s p gv jv qv w' :=
  ⟨h.pl.below k, owns_below h.gr k, owns_below h.jr k, owns_below h.qr k, h.ds, h.dg, h.dj, h.dq, fun i hi => h.dom i (Nat.le_trans k.size hi)⟩
theorem SM.keep (h : SM D s p gv jv qv w) (k : Below w.heap.size w w') : Keep D w w' := Keep.below k h.dom
theorem SM.drewN (h : SM D s p gv jv qv w) (n : Nat) : SM D s p gv jv qv (w.drewN n) := h.below (below_drewN (Below.refl _ w) n)

theorem SM.gne (h : SM D s p gv jv qv w) : gv.ownBlock ≠ some s := row_ne h.gr h.pl (by decide)
theorem SM.jne (h : SM D s p gv jv qv w) : jv.ownBlock ≠ some s := row_ne h.jr h.pl (by decide)
theorem SM.qne (h : SM D s p gv jv qv w) : qv.ownBlock ≠ some s := row_ne h.qr h.pl (by decide)
/-- Two rows of different types. -/
theorem rows_ne {x : World} {b1 b2 : Nat} {e t : TypeId} {s1 s2 : Nat} {v u : Value} {n m : Nat} {xs ys : List Value} (h : x.ownsRow b1 e s1 v n xs) (k : x.ownsRow b2 t s2 u m ys) (ht : t ≠ e) : ∀ g, u.ownBlock = some g → v.ownBlock ≠ some g := by
  intro g hg
  rcases k.2 with ⟨rfl, _⟩ | ⟨g', cap, cur, rfl, _, hh, _⟩
  · simp [Value.ownBlock] at hg
  · simp [Value.ownBlock] at hg
    subst hg
    exact row_ne h hh ht

theorem pl_ne {base : Nat} {e : TypeId} {size : Nat} {v : Value} {n : Nat} {xs : List Value} {nodes : Nat} {now : Int} (h : w.ownsRow base e size v n xs) (hp : Pl s gv nodes now jv qv w) (ht : 60 ≠ e) : v.ownBlock ≠ some s := row_ne h hp ht

theorem flatP_set (js : List PJ) (f : Nat) (hf : f < 6) (u : Value) : ∀ (k : Nat) (hk : k < js.length) (j' : PJ), (pjC j').toList = (pjC js[k]).toList.set f u → (flatP js).set (k * 6 + f) u = flatP (js.set k j') := by
  induction js with
  | nil => intro k hk; simp at hk
  | cons x r ih =>
    intro k hk j' he
    have e : flatP (x :: r) = (pjC x).toList ++ flatP r := by simp [flatP]
    have hl : (pjC x).toList.length = 6 := by simp [pjC]
    rw [e]
    cases k with
    | zero =>
      rw [List.set_append_left _ _ (by omega)]
      simp only [List.set_cons_zero, Nat.zero_mul, Nat.zero_add]
      simp only [List.getElem_cons_zero] at he
      rw [← he]
      simp [flatP]
    | succ k =>
      rw [List.set_append_right _ _ (by omega), hl, show (k + 1) * 6 + f - 6 = k * 6 + f from by omega]
      simp only [List.set_cons_succ]
      rw [ih k (by simpa using hk) j' (by simpa using he)]
      simp [flatP]

def PJ.toSt (j : PJ) (n : Nat) : PJ := { j with st := n }
def PJ.toSa (j : PJ) (n : Int) : PJ := { j with sa := n }
def PJ.toEn (j : PJ) (n : Int) : PJ := { j with en := n }

theorem SM.setJ {g n cap : Nat} (h : SM D s p gv (.slice (some ⟨g, 0, none⟩) n cap) qv w) (k f : Nat) (hf : f < 6) (u : Value) (j' : PJ) (hk : k < p.js.length) (he : (pjC j').toList = (pjC p.js[k]).toList.set f u) :
    SM D s { p with js := p.js.set k j' } gv (.slice (some ⟨g, 0, none⟩) n cap) qv (w.setCell ⟨g, k * 6 + f, none⟩ u) := by
  have hn : n = p.js.length := by
    rcases h.jr.2 with ⟨h1, _⟩ | ⟨g', cap', cur, h1, _⟩
    · simp at h1
    · simp at h1; exact h1.2.1
  subst hn
  have hsg : g ≠ s := fun e => h.jne (by simp [Value.ownBlock, e])
  have hst := (h.jr.stored (k * 6 + f) u).1
  refine ⟨whole_set_ne h.pl _ hsg u, ownsRow_setCell_other h.gr (rows_ne h.gr h.jr (by decide) g rfl) u, ?_, ownsRow_setCell_other h.qr (rows_ne h.qr h.jr (by decide) g rfl) u, h.ds, h.dg, h.dj, h.dq, fun i hi => h.dom i (by simpa using hi)⟩
  rw [flatP_set p.js f hf u k hk j' he] at hst
  simpa using hst

/-- The time is another. -/
theorem SM.setNow (h : SM D s p gv jv qv w) (t : Int) : SM D s { p with now := t } gv jv qv (w.setCell ⟨s, 2, none⟩ (.int .i64 t)) :=
  ⟨whole_set h.pl 2 _, ownsRow_setCell_other h.gr h.gne _, ownsRow_setCell_other h.jr h.jne _, ownsRow_setCell_other h.qr h.qne _, h.ds, h.dg, h.dj, h.dq, fun i hi => h.dom i (by simpa using hi)⟩
/-- The queue is another. -/
theorem SM.setQ (h : SM D s p gv jv qv w) {v : Value} {qs : List Nat} (hr : w.ownsRow 0 3 1 v qs.length (qs.map iV)) (hd : ∀ g, v.ownBlock = some g → D g) : SM D s { p with qs := qs } gv jv v (w.setCell ⟨s, 4, none⟩ v) :=
  ⟨whole_set h.pl 4 _, ownsRow_setCell_other h.gr h.gne _, ownsRow_setCell_other h.jr h.jne _, ownsRow_setCell_other hr (a := ⟨s, 4, none⟩) (pl_ne hr h.pl (by decide)) _, h.ds, h.dg, h.dj, hd, fun i hi => h.dom i (by simpa using hi)⟩
/-- One more is in the queue. -/
theorem SM.pushQ (h : SM D s p gv jv qv w) {v : Value} {k : Nat} (g : w.grownBy w' qv.ownBlock) (hr : w'.ownsRow 0 3 1 v (p.qs.length + 1) (p.qs.map iV ++ [iV k])) (hv : ∀ b, v.ownBlock = some b → D b) : SM D s { p with qs := p.qs ++ [k] } gv jv v (w'.setCell ⟨s, 4, none⟩ v) := by
  have hs : w'.heap[s]? = w.heap[s]? := g.block s h.pl.lt (fun e => h.qne e.symm)
  have hpl : Pl s gv p.nodes p.now jv qv w' := hs.trans h.pl
  have hg : w'.ownsRow 0 81 5 gv p.gs.length (flatG p.gs) := owns_same h.gr (fun b hb => g.block b (h.gr.lt b hb).2 (fun e => rows_ne h.gr h.qr (by decide) b e.symm hb))
  have hj : w'.ownsRow 0 97 6 jv p.js.length (flatP p.js) := owns_same h.jr (fun b hb => g.block b (h.jr.lt b hb).2 (fun e => rows_ne h.jr h.qr (by decide) b e.symm hb))
  refine ⟨whole_set hpl 4 _, ownsRow_setCell_other hg (a := ⟨s, 4, none⟩) (pl_ne hg hpl (by decide)) _, ownsRow_setCell_other hj (a := ⟨s, 4, none⟩) (pl_ne hj hpl (by decide)) _, ?_, h.ds, h.dg, h.dj, hv, fun i hi => h.dom i (Nat.le_trans g.size (by simpa using hi))⟩
  have := ownsRow_setCell_other hr (a := ⟨s, 4, none⟩) (pl_ne hr hpl (by decide)) v
  simpa using this

end Go.Proofs.Ytanknpmojblmcab
