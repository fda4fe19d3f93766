/-
  What stands while a head of a batch is made: the book, the names of the batch, the feed, the head.
-/
import Derived.Test.YtanknpmojblmcaaDoorKSing
import Derived.Test.YtanknpmojblmcaaDoorKWrD
import Derived.Test.YtanknpmojblmcaaDoorMathS
set_option linter.unusedSimpArgs false
set_option linter.unusedVariables false
namespace Go.Proofs.YtanknpmojblmcaaDoor
open Go.RowKit

/-- A slice of names. -/
def Ow (v : Value) (on : List (List UInt8)) (w : World) : Prop :=
  (v = .slice none 0 0 ∧ on = []) ∨ ∃ g cap, v = .slice (some ⟨g, 0, none⟩) on.length cap ∧ on.length ≤ cap ∧ g < w.heap.size ∧ ∀ k, (hk : k < on.length) → w.cell? ⟨g, k, none⟩ = some (.string (bs on[k]))
theorem Ow.form {v : Value} {on : List (List UInt8)} {w : World} (h : Ow v on w) : ∃ a c, v = .slice a on.length c := by
  rcases h with ⟨rfl, rfl⟩ | ⟨g, cap, rfl, _⟩
  · exact ⟨_, _, rfl⟩
  · exact ⟨_, _, rfl⟩

/-- All blocks ahead of h but f are as they were. -/
structure Upon (f h : Nat) (w w' : World) : Prop where
  os : w'.os = w.os
  tape : w'.tape = w.tape
  output : w'.output = w.output
  size : w.heap.size ≤ w'.heap.size
  block : ∀ k, k < h → k ≠ f → w'.heap[k]? = w.heap[k]?
theorem Upon.refl (f h : Nat) (w : World) : Upon f h w w := ⟨rfl, rfl, rfl, Nat.le_refl _, fun _ _ _ => rfl⟩
theorem Upon.trans {f h : Nat} {x y z : World} (a : Upon f h x y) (b : Upon f h y z) : Upon f h x z :=
  ⟨b.os.trans a.os, b.tape.trans a.tape, b.output.trans a.output, Nat.le_trans a.size b.size, fun k hk hf => (b.block k hk hf).trans (a.block k hk hf)⟩
theorem Upon.aside {f h : Nat} {w w' : World} (a : Aside f w w') (hh : h ≤ w.heap.size) : Upon f h w w' := ⟨a.os, a.tape, a.output, a.size, fun k hk hf => a.block k (by omega) hf⟩
theorem Upon.below {f h : Nat} {w w' : World} (a : Below h w w') : Upon f h w w' := ⟨a.os, a.tape, a.output, a.size, fun k hk hf => a.block k hk⟩

/-- What stands while the head in block h is made. -/
structure Env (b f h : Nat) (v : Value) (bn bj : Nat) (ms : List MV) (ov : Value) (on : List (List UInt8)) (m : MV) (c : Nat) (w : World) : Prop where
  bk : Bk b v bn bj w
  mr : Ms v ms w
  ow : Ow ov on w
  fd : FdA f w
  md : Md h m w
  pt : Pts h m c w
  bh : b < h
  fh : f < h
  vh : ∀ g, v.ownBlock = some g → g < h
  oh : ∀ g, ov.ownBlock = some g → g < h
  bf : b ≠ f
  vf : v.ownBlock ≠ some f
  of : ov.ownBlock ≠ some f

theorem Ms.blk {v : Value} {ms : List MV} {w w' : World} (h : Ms v ms w) (hs : w.heap.size ≤ w'.heap.size) (k : ∀ g, v.ownBlock = some g → w'.heap[g]? = w.heap[g]?) : Ms v ms w' := by
  rcases h with h | ⟨g, cap, rfl, h2, h3, h4⟩
  · exact Or.inl h
  · exact Or.inr ⟨g, cap, rfl, h2, by omega, fun i hi j hj => (World.cell?_of_block (a := ⟨g, i * 12 + j, none⟩) (k g rfl)).trans (h4 i hi j hj)⟩
theorem Ow.blk {v : Value} {on : List (List UInt8)} {w w' : World} (h : Ow v on w) (hs : w.heap.size ≤ w'.heap.size) (k : ∀ g, v.ownBlock = some g → w'.heap[g]? = w.heap[g]?) : Ow v on w' := by
  rcases h with h | ⟨g, cap, rfl, h2, h3, h4⟩
  · exact Or.inl h
  · exact Or.inr ⟨g, cap, rfl, h2, by omega, fun i hi => (World.cell?_of_block (a := ⟨g, i, none⟩) (k g rfl)).trans (h4 i hi)⟩

variable {b f h : Nat} {v : Value} {bn bj : Nat} {ms : List MV} {ov : Value} {on : List (List UInt8)} {m m' : MV} {c c' : Nat} {w w' : World}

theorem Env.hlt (E : Env b f h v bn bj ms ov on m c w) : h < w.heap.size := E.md.lt
/-- All ahead of h is as it was. -/
theorem Env.next (E : Env b f h v bn bj ms ov on m c w) (k : Below h w w') (md : Md h m' w') (pt : Pts h m' c' w') : Env b f h v bn bj ms ov on m' c' w' :=
  ⟨(k.block b E.bh).trans E.bk, E.mr.blk k.size (fun g hg => k.block g (E.vh g hg)), E.ow.blk k.size (fun g hg => k.block g (E.oh g hg)), E.fd.block (k.block f E.fh), md, pt, E.bh, E.fh, E.vh, E.oh, E.bf, E.vf, E.of⟩
theorem Env.below (E : Env b f h v bn bj ms ov on m c w) (k : Below w.heap.size w w') : Env b f h v bn bj ms ov on m c w' := by
  obtain ⟨n, xs, hn, hown⟩ := E.pt
  exact E.next (k.mono (Nat.le_of_lt E.hlt)) ((k.block h E.hlt).trans E.md) ⟨n, xs, hn, owns_below hown k⟩
theorem Env.alloc (E : Env b f h v bn bj ms ov on m c w) (o : Obj) : Env b f h v bn bj ms ov on m c (w.alloc o) := E.below ((Below.refl _ w).alloc (Nat.le_refl _) o)
theorem Env.drewN (E : Env b f h v bn bj ms ov on m c w) (n : Nat) : Env b f h v bn bj ms ov on m c (w.drewN n) := E.below (below_drewN (Below.refl _ w) n)
theorem Env.setCell (E : Env b f h v bn bj ms ov on m c w) {p : Addr} (hp : h < p.block) (hr : (Value.slice m.pa m.pn m.pc).ownBlock ≠ some p.block) (u : Value) : Env b f h v bn bj ms ov on m c (w.setCell p u) := by
  obtain ⟨n, xs, hn, hown⟩ := E.pt
  refine E.next ((Below.refl h w).setCell (by omega) u) (whole_set_ne E.md p (by omega) u) ⟨n, xs, hn, ownsRow_setCell_other hown hr u⟩
theorem Env.feed (E : Env b f h v bn bj ms ov on m c w) (k : Aside f w w') (hf : FdA f w') : Env b f h v bn bj ms ov on m c w' := by
  obtain ⟨n, xs, hn, hown⟩ := E.pt
  have hl := E.hlt
  have hbh := E.bh
  have hfh := E.fh
  exact ⟨(k.block b (by omega) E.bf).trans E.bk, E.mr.blk k.size (fun g hg => k.block g (by have := E.vh g hg; omega) (fun e => E.vf (by rw [hg, e]))), E.ow.blk k.size (fun g hg => k.block g (by have := E.oh g hg; omega) (fun e => E.of (by rw [hg, e]))), hf,
    (k.block h hl (by omega)).trans E.md, ⟨n, xs, hn, owns_aside hown k (by omega)⟩, E.bh, E.fh, E.vh, E.oh, E.bf, E.vf, E.of⟩

/-- Heads that were written. -/
def GoodM (x : MV) : Prop := JobOK x.job ∧ 1 ≤ x.count ∧ x.count ≤ 6 ∧ (x.job.arr = true → x.job.lo + x.count = x.job.hi + 1) ∧ x.first ≤ 1000 ∧ x.batch ≤ 100

theorem letB_app {R : List UInt8} (h : StopF R) : letB (hdb R) = false ∧ (hdb R == 91) = false := by
  rcases h with h | h | h | h | h <;> simp [hdb, h, letB]
theorem atom_single : AtomP [115, 105, 110, 103, 108, 101] := by
  refine ⟨by simp, by simp, ?_⟩
  intro L i R hd hR
  have hb : pk L (i, false) = 115 := byt_hdb hd
  unfold leafS
  rw [if_pos hb, wd_of _ R i (by decide) hd]
theorem ref_of {L R nm : List UInt8} {i : Nat} (hc : ∀ c ∈ nm, letB c.toNat = true) (h1 : 1 ≤ nm.length) (h6 : nm.length ≤ 6) (hd : L.drop i = nm ++ R) (hR : StopF R) : refS L (i, false) = (i + nm.length, false) := by
  obtain ⟨q1, q2⟩ := letB_app hR
  have e := nm_of (L := L) (R := R) (nm := nm) (i := i) q1 hc h1 h6 hd
  have hs : sk L 91 (i + nm.length, false) = false := by
    have e := sk_head (c := 91) (drop_more hd) (by decide)
    have e2 : decide (R.head? = some 91) = false := by rcases hR with h | h | h | h | h <;> rw [h] <;> decide
    rw [e2] at e; exact e
  unfold refS
  simp only
  rw [e, if_neg (by rw [hs]; decide)]
theorem ref_num {L R nm : List UInt8} {i n : Nat} (hn : n ≤ 12) (hc : ∀ c ∈ nm, letB c.toNat = true) (h1 : 1 ≤ nm.length) (h6 : nm.length ≤ 6) (hd : L.drop i = nm ++ ([91] ++ (dig2 n ++ ([93] ++ R)))) : refS L (i, false) = (i + nm.length + 1 + (dig2 n).length + 1, false) := by
  have e := nm_of (L := L) (R := [91] ++ (dig2 n ++ ([93] ++ R))) (nm := nm) (i := i) (by rfl) hc h1 h6 hd
  have d1 := drop_more hd
  have hs : sk L 91 (i + nm.length, false) = true := by
    have e := sk_head (c := 91) d1 (by decide)
    simpa using e
  have d2 := drop_more d1
  have n1 := num_dig (L := L) (i := i + nm.length + 1) (n := n) hn d2 (by rfl)
  have d3 := drop_more d2
  have w1 : wd L [93] (i + nm.length + 1 + (dig2 n).length, false) = (i + nm.length + 1 + (dig2 n).length + 1, false) := wd_of [93] _ _ (by decide) d3
  unfold refS
  simp only
  rw [e]
  simp only
  rw [if_pos hs, n1.2, w1]
/-- The words ahead of a reference. -/
def opW (k : Nat) : List UInt8 := if k = 0 then [111, 107, 58] else if k = 1 then [97, 110, 121, 58] else [110, 111, 116, 58]
theorem leaf_word {L : List UInt8} {i k : Nat} {r : Nat × Bool} {R : List UInt8} (hd : L.drop i = opW k ++ R) (h : refS L (i + (opW k).length, false) = r) : leafS L (i, false) = r := by
  unfold opW at hd h
  by_cases h0 : k = 0
  · rw [if_pos h0] at hd h
    have hb : pk L (i, false) = 111 := byt_hdb hd
    unfold leafS
    rw [if_neg (by omega), if_pos hb, wd_of _ R i (by decide) hd]
    exact h
  · rw [if_neg h0] at hd h
    by_cases h1 : k = 1
    · rw [if_pos h1] at hd h
      have hb : pk L (i, false) = 97 := byt_hdb hd
      unfold leafS
      rw [if_neg (by omega), if_neg (by omega), if_pos hb, wd_of _ R i (by decide) hd]
      exact h
    · rw [if_neg h1] at hd h
      have hb : pk L (i, false) = 110 := byt_hdb hd
      unfold leafS
      rw [if_neg (by omega), if_neg (by omega), if_neg (by omega), if_pos hb, wd_of _ R i (by decide) hd]
      exact h
theorem opW_head (k : Nat) (r : List UInt8) : opW k ++ r ≠ [] ∧ (opW k ++ r).head? ≠ some 40 := by
  unfold opW
  split
  · simp
  split
  · simp
  · simp
theorem atom_ref {nm : List UInt8} (k : Nat) (hc : ∀ c ∈ nm, letB c.toNat = true) (h1 : 1 ≤ nm.length) (h6 : nm.length ≤ 6) : AtomP (opW k ++ nm) := by
  refine ⟨(opW_head k nm).1, (opW_head k nm).2, ?_⟩
  intro L i R hd hR
  rw [List.append_assoc] at hd
  rw [leaf_word hd (ref_of hc h1 h6 (drop_more hd) hR)]
  simp; omega
theorem atom_num {nm : List UInt8} (k : Nat) {n : Nat} (hn : n ≤ 12) (hc : ∀ c ∈ nm, letB c.toNat = true) (h1 : 1 ≤ nm.length) (h6 : nm.length ≤ 6) : AtomP (opW k ++ (nm ++ ([91] ++ (dig2 n ++ [93])))) := by
  refine ⟨(opW_head k _).1, (opW_head k _).2, ?_⟩
  intro L i R hd hR
  have hd0 : L.drop i = opW k ++ (nm ++ ([91] ++ (dig2 n ++ ([93] ++ R)))) := by rw [hd]; simp
  rw [leaf_word hd0 (ref_num hn hc h1 h6 (drop_more hd0))]
  simp; omega
/-- No newline. -/
def NoNl (t : List UInt8) : Prop := ∀ c ∈ t, c ≠ 10
/-- A text of an atom. -/
structure AtomT (t : List UInt8) : Prop where
  a : AtomP t
  l : LeafP t
  n : t.length ≤ 14
  z : NoNl t
theorem noNl_app {a b : List UInt8} (h1 : NoNl a) (h2 : NoNl b) : NoNl (a ++ b) := by
  intro x hx
  rcases List.mem_append.1 hx with hx | hx
  · exact h1 x hx
  · exact h2 x hx
theorem noNl_opW (k : Nat) : NoNl (opW k) := by
  unfold opW NoNl
  split
  · decide
  split
  · decide
  · decide
theorem noNl_name {nm : List UInt8} (hc : ∀ c ∈ nm, letB c.toNat = true) : NoNl nm := by
  intro x hx
  have := hc x hx
  rintro rfl
  revert this; decide
theorem noNl_dig {n : Nat} (hn : n ≤ 12) : NoNl (dig2 n) := by
  have hh : n = 0 ∨ n = 1 ∨ n = 2 ∨ n = 3 ∨ n = 4 ∨ n = 5 ∨ n = 6 ∨ n = 7 ∨ n = 8 ∨ n = 9 ∨ n = 10 ∨ n = 11 ∨ n = 12 := by omega
  rcases hh with rfl | rfl | rfl | rfl | rfl | rfl | rfl | rfl | rfl | rfl | rfl | rfl | rfl <;> (unfold NoNl; decide)
theorem leafP_app {a b : List UInt8} (h1 : LeafP a) (h2 : LeafP b) : LeafP (a ++ b) := by
  intro x hx
  rcases List.mem_append.1 hx with hx | hx
  · exact h1 x hx
  · exact h2 x hx
theorem leafP_opW (k : Nat) : LeafP (opW k) := by
  unfold opW LeafP
  split
  · decide
  split
  · decide
  · decide
theorem leafP_name {nm : List UInt8} (hc : ∀ c ∈ nm, letB c.toNat = true) : LeafP nm := by
  intro x hx
  have := hc x hx
  simp [letB] at this
  refine ⟨?_, ?_, ?_, ?_⟩ <;> (rintro rfl; revert this; decide)
theorem leafP_dig {n : Nat} (hn : n ≤ 12) : LeafP (dig2 n) := by
  have hh : n = 0 ∨ n = 1 ∨ n = 2 ∨ n = 3 ∨ n = 4 ∨ n = 5 ∨ n = 6 ∨ n = 7 ∨ n = 8 ∨ n = 9 ∨ n = 10 ∨ n = 11 ∨ n = 12 := by omega
  rcases hh with rfl | rfl | rfl | rfl | rfl | rfl | rfl | rfl | rfl | rfl | rfl | rfl | rfl <;> (unfold LeafP; decide)
theorem opW_len (k : Nat) : (opW k).length ≤ 4 := by unfold opW; split <;> (try split) <;> simp
theorem atomT_single : AtomT [115, 105, 110, 103, 108, 101] := ⟨atom_single, by unfold LeafP; decide, by simp, by unfold NoNl; decide⟩
theorem atomT_ref {j : JV} (hj : JobOK j) (k : Nat) : AtomT (opW k ++ j.name) :=
  ⟨atom_ref k hj.nm hj.nm1 hj.nm6, leafP_app (leafP_opW k) (leafP_name hj.nm), by have := opW_len k; have := hj.nm6; simp; omega, noNl_app (noNl_opW k) (noNl_name hj.nm)⟩
theorem atomT_num {j : JV} (hj : JobOK j) (k : Nat) {n : Nat} (hn : n ≤ 12) : AtomT (opW k ++ (j.name ++ ([91] ++ (dig2 n ++ [93])))) :=
  ⟨atom_num k hn hj.nm hj.nm1 hj.nm6, leafP_app (leafP_opW k) (leafP_app (leafP_name hj.nm) (leafP_app (by unfold LeafP; decide) (leafP_app (leafP_dig hn) (by unfold LeafP; decide)))), by have := opW_len k; have := hj.nm6; have := dig2_len n; simp; omega, noNl_app (noNl_opW k) (noNl_app (noNl_name hj.nm) (noNl_app (by unfold NoNl; decide) (noNl_app (noNl_dig hn) (by unfold NoNl; decide))))⟩

end Go.Proofs.YtanknpmojblmcaaDoor
