/-
  Plain mathematics: a head's line that is written so is read so.
-/
import Derived.Test.YtanknpmojblmcaaDoorMathR
import Derived.Test.YtanknpmojblmcaaDoorKWrD
set_option linter.unusedSimpArgs false
set_option linter.unusedVariables false
namespace Go.Proofs.YtanknpmojblmcaaDoor

/-- The first byte of a text, as a number; 0 of none. -/
def hdb (R : List UInt8) : Nat := (R.head?.map UInt8.toNat).getD 0
def EndL (R : List UInt8) : Prop := R.head? = none ∨ R.head? = some 10
theorem EndL.b {R : List UInt8} (h : EndL R) : hdb R = 0 ∨ hdb R = 10 := by
  rcases h with h | h <;> simp [hdb, h]
theorem byt_hdb {L R : List UInt8} {i : Nat} (h : L.drop i = R) : byt L i = hdb R := byt_head h

theorem lets_of {L R : List UInt8} (hR : letB (hdb R) = false) : ∀ (nm : List UInt8) (n i : Nat), (∀ c ∈ nm, letB c.toNat = true) → nm.length ≤ n → L.drop i = nm ++ R → lets L n i = nm.length
  | [], n, i, _, _, hd => by
    have hb := byt_hdb hd
    cases n with
    | zero => rfl
    | succ n => simp [lets, hb]; simpa using hR
  | c :: nm, n, i, hc, hn, hd => by
    obtain ⟨m, rfl⟩ : ∃ m, n = m + 1 := ⟨n - 1, by simp at hn; omega⟩
    have hb := (byt_drop hd).2.1
    have hl : letB (byt L i) = true := by rw [hb]; exact hc c (by simp)
    have ih := lets_of hR nm m (i + 1) (fun d hd => hc d (by simp [hd])) (by simp at hn; omega) (byt_drop hd).2.2
    simp [lets, hl, ih]
theorem nm_of {L R nm : List UInt8} {i : Nat} (hR : letB (hdb R) = false) (hc : ∀ c ∈ nm, letB c.toNat = true) (h1 : 1 ≤ nm.length) (h6 : nm.length ≤ 6) (hd : L.drop i = nm ++ R) : nmS L (i, false) = (i + nm.length, false) := by
  have e := lets_of hR nm 6 i hc h6 hd
  simp [nmS, e]
  intro q; rw [q] at h1; simp at h1

theorem num_dig {L R : List UInt8} {i n : Nat} (hn : n ≤ 12) (hd : L.drop i = dig2 n ++ R) (hR : digB (hdb R) = false) : numV L (i, false) = n ∧ numS L (i, false) = (i + (dig2 n).length, false) := by
  have key : ∀ (c : UInt8), L.drop i = c :: R → 48 ≤ c.toNat → c.toNat ≤ 57 → numV L (i, false) = c.toNat - 48 ∧ numS L (i, false) = (i + 1, false) := by
    intro c h h1 h2
    have hb : byt L i = c.toNat := (byt_drop h).2.1
    have hb1 : byt L (i + 1) = hdb R := byt_hdb (byt_drop h).2.2
    have d1 : digB (pk L (i, false)) = true := by show digB (byt L i) = true; rw [hb]; simp [digB, h1, h2]
    have d2 : digB (pk L (i + 1, false)) = false := by show digB (byt L (i + 1)) = false; rw [hb1]; exact hR
    have e : pk L (i, false) = c.toNat := hb
    unfold numV numS
    rw [if_pos d1, if_pos d1, if_pos (by simp [d2]), if_pos (by simp [d2]), e]
    exact ⟨rfl, rfl⟩
  have key2 : ∀ (c d : UInt8), L.drop i = c :: d :: R → 49 ≤ c.toNat → c.toNat ≤ 57 → 48 ≤ d.toNat → d.toNat ≤ 57 → numV L (i, false) = 10 * (c.toNat - 48) + (d.toNat - 48) ∧ numS L (i, false) = (i + 2, false) := by
    intro c d h h1 h2 h3 h4
    have hb : byt L i = c.toNat := (byt_drop h).2.1
    have hb1 : byt L (i + 1) = d.toNat := (byt_drop (byt_drop h).2.2).2.1
    have d1 : digB (pk L (i, false)) = true := by show digB (byt L i) = true; rw [hb]; simp [digB]; omega
    have d2 : digB (pk L (i + 1, false)) = true := by show digB (byt L (i + 1)) = true; rw [hb1]; simp [digB, h3, h4]
    have e : pk L (i, false) = c.toNat := hb
    have e1 : pk L (i + 1, false) = d.toNat := hb1
    have d3 : (pk L (i, false) == 48) = false := by rw [e, beq_eq_false_iff_ne]; omega
    unfold numV numS
    rw [if_pos d1, if_pos d1, if_neg (by simp [d2, d3]), if_neg (by simp [d2, d3]), e, e1]
    exact ⟨rfl, rfl⟩
  have hh : n = 0 ∨ n = 1 ∨ n = 2 ∨ n = 3 ∨ n = 4 ∨ n = 5 ∨ n = 6 ∨ n = 7 ∨ n = 8 ∨ n = 9 ∨ n = 10 ∨ n = 11 ∨ n = 12 := by omega
  rcases hh with rfl | rfl | rfl | rfl | rfl | rfl | rfl | rfl | rfl | rfl | rfl | rfl | rfl
  · exact key 48 hd (by decide) (by decide)
  · exact key 49 hd (by decide) (by decide)
  · exact key 50 hd (by decide) (by decide)
  · exact key 51 hd (by decide) (by decide)
  · exact key 52 hd (by decide) (by decide)
  · exact key 53 hd (by decide) (by decide)
  · exact key 54 hd (by decide) (by decide)
  · exact key 55 hd (by decide) (by decide)
  · exact key 56 hd (by decide) (by decide)
  · exact key 57 hd (by decide) (by decide)
  · exact key2 49 48 hd (by decide) (by decide) (by decide) (by decide)
  · exact key2 49 49 hd (by decide) (by decide) (by decide) (by decide)
  · exact key2 49 50 hd (by decide) (by decide) (by decide) (by decide)

/-- A job that can be written. -/
structure JobOK (j : JV) : Prop where
  nm : ∀ c ∈ j.name, letB c.toNat = true
  nm1 : 1 ≤ j.name.length
  nm6 : j.name.length ≤ 6
  nodes : 1 ≤ j.nodes ∧ j.nodes ≤ 8
  time : 1 ≤ j.time ∧ j.time ≤ 12
  arr : j.arr = true → j.lo ≤ j.hi ∧ j.hi < j.lo + 6 ∧ j.hi ≤ 12
  no : j.arr = false → j.lo = 0 ∧ j.hi = 0

/-- A head's line, and the job that it is read as. -/
def HeadLine (t : List UInt8) (jv : JV) : Prop :=
  ∀ L i R, L.drop i = t ++ R → EndL R → seesB L i = true ∧ ∃ hv, headH L (i, false) = (hv, (i + t.length, false)) ∧ jobOf hv = jv

theorem zero_nodig {R : List UInt8} (h : EndL R) : digB (hdb R) = false := by rcases h.b with e | e <;> rw [e] <;> rfl

theorem front {L : List UInt8} {j : JV} {i : Nat} {R : List UInt8} (hj : JobOK j) (hd : L.drop i = wr0 j ++ R) (hR : digB (hdb R) = false) :
    seesB L i = true ∧ hed4 L (i, false) = (i + (wr0 j).length, false) ∧ jobOf (hedV L (i, false)) = { j with arr := false, lo := 0, hi := 0, after := [] } := by
  have d0 : L.drop i = [35, 74, 32] ++ (j.name ++ ([32, 110, 111, 100, 101, 115, 61] ++ (dig2 j.nodes ++ ([32, 116, 105, 109, 101, 61] ++ (dig2 j.time ++ R))))) := by rw [hd]; simp [wr0]
  have d1 := drop_more d0
  have d2 := drop_more d1
  have d3 := drop_more d2
  have d4 := drop_more d3
  have d5 := drop_more d4
  have h1 : hed1 L (i, false) = (i + 3, false) := wd_of [35, 74, 32] _ i (by decide) d0
  have h2 : nmS L (i + 3, false) = (i + 3 + j.name.length, false) := nm_of (by rfl) hj.nm hj.nm1 hj.nm6 d1
  have h3 : hed2 L (i, false) = (i + 3 + j.name.length + 7, false) := by
    unfold hed2; rw [h1, h2]; exact wd_of [32, 110, 111, 100, 101, 115, 61] _ _ (by decide) d2
  have n1 := num_dig (L := L) (i := i + 3 + j.name.length + 7) (n := j.nodes) (by have := hj.nodes; omega) d3 (by rfl)
  have h4 : hed3 L (i, false) = (i + 3 + j.name.length + 7 + (dig2 j.nodes).length + 6, false) := by
    unfold hed3; rw [h3, n1.2]; exact wd_of [32, 116, 105, 109, 101, 61] _ _ (by decide) d4
  have n2 := num_dig (L := L) (i := i + 3 + j.name.length + 7 + (dig2 j.nodes).length + 6) (n := j.time) (by have := hj.time; omega) d5 hR
  refine ⟨?_, ?_, ?_⟩
  · have d0' : L.drop i = 35 :: 74 :: 32 :: (j.name ++ ([32, 110, 111, 100, 101, 115, 61] ++ (dig2 j.nodes ++ ([32, 116, 105, 109, 101, 61] ++ (dig2 j.time ++ R))))) := d0
    have b0 := byt_drop d0'
    have b1 := byt_drop b0.2.2
    have e0 : byt L i = 35 := b0.2.1
    have e1 : byt L (i + 1) = 74 := b1.2.1
    simp [seesB, e0, e1]
  · unfold hed4; rw [h4, n2.2]; simp [wr0]; omega
  · unfold hedV jobOf
    rw [h1, h2, h3, h4]
    simp only
    have ec : cut L (i + 3) (i + 3 + j.name.length) = j.name := cut_of_drop d1
    rw [ec, n1.1, n2.1]

theorem EndL.w {R : List UInt8} (h : EndL R) : StopW R := by
  rcases h with h | h
  · exact Or.inl h
  · exact Or.inr (Or.inr h)
theorem arr_part {L R : List UInt8} {q lo hi : Nat} (h : HV) (h1 : lo ≤ 12) (h2 : hi ≤ 12) (hd : L.drop q = dig2 lo ++ ([45] ++ (dig2 hi ++ R))) (hR : digB (hdb R) = false) :
    ∃ h', arrH L h (q, false) = (h', (q + (dig2 lo).length + 1 + (dig2 hi).length, false)) ∧ jobOf h' = { jobOf h with arr := true, lo := lo, hi := hi } := by
  have d1 := drop_more hd
  have d2 := drop_more d1
  have n1 := num_dig (L := L) (i := q) (n := lo) h1 hd (by rfl)
  have w1 : wd L [45] (q + (dig2 lo).length, false) = (q + (dig2 lo).length + 1, false) := wd_of [45] _ _ (by decide) d1
  have n2 := num_dig (L := L) (i := q + (dig2 lo).length + 1) (n := hi) h2 d2 hR
  refine ⟨{ h with arr := true, arrayAt := q, lo := lo, hi := hi }, ?_, ?_⟩
  · unfold arrH
    rw [n1.1, n1.2, w1, n2.1, n2.2]
  · rfl
theorem aft_part {L R W : List UInt8} {p : List UInt8 × Nat} {q : Nat} (h : HV) (hW : WantP (FacP AtomP 4) W p) (hd : L.drop q = [102, 116, 101, 114, 61] ++ (W ++ R)) (hR : EndL R) :
    ∃ h', aftH L h (q, false) = (h', (q + 5 + W.length, false)) ∧ jobOf h' = { jobOf h with after := p.1 } := by
  have d1 := drop_more hd
  have w1 : wd L [102, 116, 101, 114, 61] (q, false) = (q + 5, false) := wd_of [102, 116, 101, 114, 61] _ _ (by decide) hd
  have w2 : wantF L (fac L 4) (q + 5, false) = (p, (q + 5 + W.length, false)) := reads_want W p L (q + 5) R hW d1 hR.w
  refine ⟨{ h with after := p.1, want := wantQ L (fac L 4) (facQ L 4) (q + 5, false) }, ?_, ?_⟩
  · unfold aftH
    rw [w1, w2]
  · rfl

theorem opt_no {L : List UInt8} {h : HV} {q : Nat} {R : List UInt8} (hd : L.drop q = R) (hR : EndL R) : optH L h (q, false) = (h, (q, false)) := by
  have hs : sk L 32 (q, false) = false := by
    have e := sk_head (c := 32) hd (by decide)
    have e2 : decide (R.head? = some 32) = false := by rcases hR with h | h <;> rw [h] <;> decide
    rw [e2] at e; exact e
  simp [optH, hs]
theorem sk_32 {L R : List UInt8} {q : Nat} (hd : L.drop q = 32 :: R) : sk L 32 (q, false) = true := by
  have e := sk_head (c := 32) hd (by decide)
  simpa using e
theorem opt_arr {L : List UInt8} {q : Nat} {lo hi : Nat} (h : HV) (h1 : lo ≤ 12) (h2 : hi ≤ 12) {R : List UInt8} (hd : L.drop q = [32, 97, 114, 114, 97, 121, 61] ++ (dig2 lo ++ ([45] ++ (dig2 hi ++ R)))) (hR : EndL R) :
    ∃ h', optH L h (q, false) = (h', (q + 7 + (dig2 lo).length + 1 + (dig2 hi).length, false)) ∧ jobOf h' = { jobOf h with arr := true, lo := lo, hi := hi } := by
  have hd' : L.drop q = 32 :: ([97, 114, 114, 97, 121, 61] ++ (dig2 lo ++ ([45] ++ (dig2 hi ++ R)))) := by rw [hd]; rfl
  have s1 := sk_32 hd'
  have d1 : L.drop (q + 1) = [97] ++ ([114, 114, 97, 121, 61] ++ (dig2 lo ++ ([45] ++ (dig2 hi ++ R)))) := (byt_drop (W := L) (k := q) (c := 32) hd).2.2
  have w1 : wd L [97] (q + 1, false) = (q + 2, false) := wd_of [97] _ _ (by decide) d1
  have d2 := drop_more d1
  have p1 : pk L (q + 2, false) = 114 := byt_hdb d2
  have w2 : wd L [114, 114, 97, 121, 61] (q + 2, false) = (q + 7, false) := wd_of [114, 114, 97, 121, 61] _ _ (by decide) d2
  have d3 := drop_more d2
  obtain ⟨h', a1, a2⟩ := arr_part h h1 h2 d3 (zero_nodig hR)
  have a1 : arrH L h (q + 7, false) = (h', (q + 7 + (dig2 lo).length + 1 + (dig2 hi).length, false)) := a1
  have d6 : L.drop (q + 7 + (dig2 lo).length + 1 + (dig2 hi).length) = R := drop_more (drop_more (drop_more d3))
  have s2 : sk L 32 (q + 7 + (dig2 lo).length + 1 + (dig2 hi).length, false) = false := by
    have e := sk_head (c := 32) d6 (by decide)
    have e2 : decide (R.head? = some 32) = false := by rcases hR with h | h <;> rw [h] <;> decide
    rw [e2] at e; exact e
  refine ⟨h', ?_, a2⟩
  unfold optH
  rw [if_pos s1]
  simp only
  rw [w1, if_pos p1, w2, a1]
  simp only
  rw [if_neg (by rw [s2]; decide)]
theorem opt_aft {L : List UInt8} {q : Nat} (h : HV) {R W : List UInt8} {p : List UInt8 × Nat} (hW : WantP (FacP AtomP 4) W p) (hd : L.drop q = [32, 97, 102, 116, 101, 114, 61] ++ (W ++ R)) (hR : EndL R) :
    ∃ h', optH L h (q, false) = (h', (q + 7 + W.length, false)) ∧ jobOf h' = { jobOf h with after := p.1 } := by
  have hd' : L.drop q = 32 :: ([97, 102, 116, 101, 114, 61] ++ (W ++ R)) := by rw [hd]; rfl
  have s1 := sk_32 hd'
  have d1 : L.drop (q + 1) = [97] ++ ([102, 116, 101, 114, 61] ++ (W ++ R)) := (byt_drop (W := L) (k := q) (c := 32) hd).2.2
  have w1 : wd L [97] (q + 1, false) = (q + 2, false) := wd_of [97] _ _ (by decide) d1
  have d2 := drop_more d1
  have p1 : pk L (q + 2, false) = 102 := byt_hdb d2
  obtain ⟨h', a1, a2⟩ := aft_part h hW d2 hR
  have a1 : aftH L h (q + 2, false) = (h', (q + 7 + W.length, false)) := a1
  refine ⟨h', ?_, a2⟩
  unfold optH
  rw [if_pos s1]
  simp only
  rw [w1, if_neg (by rw [p1]; decide)]
  exact a1
theorem opt_both {L : List UInt8} {q : Nat} {lo hi : Nat} (h : HV) (h1 : lo ≤ 12) (h2 : hi ≤ 12) {R W : List UInt8} {p : List UInt8 × Nat} (hW : WantP (FacP AtomP 4) W p)
    (hd : L.drop q = [32, 97, 114, 114, 97, 121, 61] ++ (dig2 lo ++ ([45] ++ (dig2 hi ++ ([32, 97, 102, 116, 101, 114, 61] ++ (W ++ R)))))) (hR : EndL R) :
    ∃ h', optH L h (q, false) = (h', (q + 7 + (dig2 lo).length + 1 + (dig2 hi).length + 7 + W.length, false)) ∧ jobOf h' = { jobOf h with arr := true, lo := lo, hi := hi, after := p.1 } := by
  have hd' : L.drop q = 32 :: ([97, 114, 114, 97, 121, 61] ++ (dig2 lo ++ ([45] ++ (dig2 hi ++ ([32, 97, 102, 116, 101, 114, 61] ++ (W ++ R)))))) := by rw [hd]; rfl
  have s1 := sk_32 hd'
  have d1 : L.drop (q + 1) = [97] ++ ([114, 114, 97, 121, 61] ++ (dig2 lo ++ ([45] ++ (dig2 hi ++ ([32, 97, 102, 116, 101, 114, 61] ++ (W ++ R)))))) := (byt_drop (W := L) (k := q) (c := 32) hd).2.2
  have w1 : wd L [97] (q + 1, false) = (q + 2, false) := wd_of [97] _ _ (by decide) d1
  have d2 := drop_more d1
  have p1 : pk L (q + 2, false) = 114 := byt_hdb d2
  have w2 : wd L [114, 114, 97, 121, 61] (q + 2, false) = (q + 7, false) := wd_of [114, 114, 97, 121, 61] _ _ (by decide) d2
  have d3 := drop_more d2
  obtain ⟨h', a1, a2⟩ := arr_part h h1 h2 d3 (by rfl)
  have a1 : arrH L h (q + 7, false) = (h', (q + 7 + (dig2 lo).length + 1 + (dig2 hi).length, false)) := a1
  have d6 : L.drop (q + 7 + (dig2 lo).length + 1 + (dig2 hi).length) = 32 :: ([97] ++ ([102, 116, 101, 114, 61] ++ (W ++ R))) := drop_more (drop_more (drop_more d3))
  have s2 := sk_32 d6
  have d7 := (byt_drop d6).2.2
  have w3 : wd L [97] (q + 7 + (dig2 lo).length + 1 + (dig2 hi).length + 1, false) = (q + 7 + (dig2 lo).length + 1 + (dig2 hi).length + 2, false) := wd_of [97] _ _ (by decide) d7
  have d8 := drop_more d7
  obtain ⟨h2', b1, b2⟩ := aft_part h' hW d8 hR
  have b1 : aftH L h' (q + 7 + (dig2 lo).length + 1 + (dig2 hi).length + 2, false) = (h2', (q + 7 + (dig2 lo).length + 1 + (dig2 hi).length + 7 + W.length, false)) := b1
  refine ⟨h2', ?_, by rw [b2, a2]⟩
  unfold optH
  rw [if_pos s1]
  simp only
  rw [w1, if_pos p1, w2, a1]
  simp only
  rw [if_pos s2, w3]
  exact b1

/-- A line that is written so is read so. -/
theorem head_line {j : JV} (hj : JobOK j) {W : List UInt8} {P : List UInt8} (hW : (W = [] ∧ P = []) ∨ (W ≠ [] ∧ ∃ k, WantP (FacP AtomP 4) W (P, k))) : HeadLine (wrL j W) { j with after := P } := by
  intro L i R hd hR
  obtain ⟨jn, jno, jt, ja, jl, jh, jaf⟩ := j
  cases ja with
  | false =>
    obtain ⟨rfl, rfl⟩ := hj.no rfl
    rcases hW with ⟨rfl, rfl⟩ | ⟨hne, k, hW⟩
    · have hw : wrL ⟨jn, jno, jt, false, 0, 0, jaf⟩ [] = wr0 ⟨jn, jno, jt, false, 0, 0, jaf⟩ := by simp [wrL, wrA]
      rw [hw] at hd ⊢
      obtain ⟨f1, f2, f3⟩ := front hj hd (zero_nodig hR)
      refine ⟨f1, hedV L (i, false), ?_, f3⟩
      unfold headH
      rw [f2, opt_no (drop_more hd) hR]
    · have hw : wrL ⟨jn, jno, jt, false, 0, 0, jaf⟩ W = wr0 ⟨jn, jno, jt, false, 0, 0, jaf⟩ ++ ([32, 97, 102, 116, 101, 114, 61] ++ W) := by simp [wrL, wrA, hne]
      rw [hw] at hd ⊢
      have hd0 : L.drop i = wr0 ⟨jn, jno, jt, false, 0, 0, jaf⟩ ++ ([32, 97, 102, 116, 101, 114, 61] ++ (W ++ R)) := by rw [hd]; simp
      obtain ⟨f1, f2, f3⟩ := front hj hd0 (by rfl)
      obtain ⟨h', a1, a2⟩ := opt_aft (hedV L (i, false)) hW (drop_more hd0) hR
      refine ⟨f1, h', ?_, by rw [a2, f3]⟩
      unfold headH
      rw [f2, a1]
      simp; omega
  | true =>
    obtain ⟨l1, l2, l3⟩ := hj.arr rfl
    have l1 : jl ≤ jh := l1
    have l3 : jh ≤ 12 := l3
    rcases hW with ⟨rfl, rfl⟩ | ⟨hne, k, hW⟩
    · have hw : wrL ⟨jn, jno, jt, true, jl, jh, jaf⟩ [] = wr0 ⟨jn, jno, jt, true, jl, jh, jaf⟩ ++ ([32, 97, 114, 114, 97, 121, 61] ++ (dig2 jl ++ ([45] ++ dig2 jh))) := by simp [wrL, wrA]
      rw [hw] at hd ⊢
      have hd0 : L.drop i = wr0 ⟨jn, jno, jt, true, jl, jh, jaf⟩ ++ ([32, 97, 114, 114, 97, 121, 61] ++ (dig2 jl ++ ([45] ++ (dig2 jh ++ R)))) := by rw [hd]; simp
      obtain ⟨f1, f2, f3⟩ := front hj hd0 (by rfl)
      obtain ⟨h', a1, a2⟩ := opt_arr (hedV L (i, false)) (by omega) l3 (drop_more hd0) hR
      refine ⟨f1, h', ?_, by rw [a2, f3]⟩
      unfold headH
      rw [f2, a1]
      simp; omega
    · have hw : wrL ⟨jn, jno, jt, true, jl, jh, jaf⟩ W = wr0 ⟨jn, jno, jt, true, jl, jh, jaf⟩ ++ ([32, 97, 114, 114, 97, 121, 61] ++ (dig2 jl ++ ([45] ++ (dig2 jh ++ ([32, 97, 102, 116, 101, 114, 61] ++ W))))) := by simp [wrL, wrA, hne]
      rw [hw] at hd ⊢
      have hd0 : L.drop i = wr0 ⟨jn, jno, jt, true, jl, jh, jaf⟩ ++ ([32, 97, 114, 114, 97, 121, 61] ++ (dig2 jl ++ ([45] ++ (dig2 jh ++ ([32, 97, 102, 116, 101, 114, 61] ++ (W ++ R)))))) := by rw [hd]; simp
      obtain ⟨f1, f2, f3⟩ := front hj hd0 (by rfl)
      obtain ⟨h', a1, a2⟩ := opt_both (hedV L (i, false)) (by omega) l3 hW (drop_more hd0) hR
      refine ⟨f1, h', ?_, by rw [a2, f3]⟩
      unfold headH
      rw [f2, a1]
      simp; omega

end Go.Proofs.YtanknpmojblmcaaDoor
