/-
  Plain mathematics: a head's options; a head's line as a whole.
-/
import Derived.Test.YtanknpmojblmcaaMathE
set_option linter.unusedSimpArgs false
set_option linter.unusedVariables false
namespace Go.Proofs.Ytanknpmojblmcaa

/-- The plain form: what is asked of it. -/
def PlainThm (L : List UInt8) : Prop := ∀ i j t k, i ≤ L.length → wantF L (fac L 4) (i, false) = ((t, k), (j, false)) → PlainOK 700 (cut L i j) ∧ plainI 700 (cut L i j) = t

theorem wd_cons (L : List UInt8) (c : UInt8) (r : List UInt8) (s : Nat × Bool) : wd L (c :: r) s = if sk L c.toNat s then wd L r (s.1 + 1, s.2) else (s.1, true) := rfl
theorem wd_append (L : List UInt8) (W V : List UInt8) : ∀ s, wd L (W ++ V) s = wd L V (wd L W s) := by
  induction W with
  | nil => intro s; rfl
  | cons c r ih =>
    intro s
    show wd L (c :: (r ++ V)) s = _
    rw [wd_cons, wd_cons]
    cases hs : sk L c.toNat s with
    | true => rw [if_pos rfl, if_pos rfl]; exact ih _
    | false => rw [if_neg (by decide), if_neg (by decide)]; exact (wd_fail L V s.1).symm
theorem wd_sk {L : List UInt8} {i : Nat} (h : sk L 32 (i, false) = true) : wd L [32] (i, false) = (i + 1, false) := by simp [wd, h]
theorem not_dig_end {L : List UInt8} {j : Nat} (h : j = L.length ∨ byt L j = 10) : digB (byt L j) = false := by
  rcases h with h | h
  · rw [byt_out (by omega)]; rfl
  · rw [h]; rfl

/-- What stands behind ' after='. -/
theorem aft_facts {L : List UInt8} {s : Nat × Bool} {hv0 hv : HV} {p j : Nat} (PL : PlainThm L) (hp : p ≤ L.length)
    (hw : wd L [102, 116, 101, 114, 61] s = wd L kAfter (p, false)) (h : aftH L hv0 s = (hv, (j, false))) :
    cut L p (p + 7) = kAfter ∧ hv = { hv0 with after := hv.after, want := hv.want } ∧ PlainOK 700 (cut L (p + 7) j) ∧ plainI 700 (cut L (p + 7) j) = hv.after ∧ NoNE L (p + 7) j ∧ p + 7 ≤ j ∧ j ≤ L.length := by
  unfold aftH at h
  rw [hw] at h
  injection h with h1 h2
  have hf : (wd L kAfter (p, false)).2 = false := by
    cases q : (wd L kAfter (p, false)).2 with
    | false => rfl
    | true =>
      have e : wd L kAfter (p, false) = ((wd L kAfter (p, false)).1, true) := Prod.ext rfl q
      rw [e, wantF_fail (fac_fail L 4)] at h2; cases h2
  have q := wd_ok L kAfter _ hf
  have e : wd L kAfter (p, false) = (p + 7, false) := q.2.1
  have hle : p + 7 ≤ L.length := q.2.2.2 (by simp [kAfter])
  rw [e] at h1 h2
  have e2 : wantF L (fac L 4) (p + 7, false) = (((wantF L (fac L 4) (p + 7, false)).1.1, (wantF L (fac L 4) (p + 7, false)).1.2), (j, false)) := Prod.ext rfl h2
  have hP := PL (p + 7) j _ _ hle e2
  have g := (wantF_good (fac_good L 4) (p + 7, false) hle).1
  have nn := want_none L (p + 7, false) (by rw [h2])
  rw [h2] at g nn
  have ha : hv.after = (wantF L (fac L 4) (p + 7, false)).1.1 := by rw [← h1]
  refine ⟨q.2.2.1, ?_, hP.1, by rw [hP.2, ha], nn, g.1, g.2⟩
  rw [← h1]

theorem eqp_after {L : List UInt8} {p : Nat} (h : cut L p (p + 7) = kAfter) : EqP L p (p + 7) [114] ∧ EqP L p (p + 6) [] ∧ ∀ k, p ≤ k → k < p + 7 → byt L k ≠ 10 := by
  have e := EqP.word (L := L) (K := [32, 97, 102, 116, 101]) (q := 114) (p := p) h (by decide) (by decide)
  refine ⟨e.1, e.2, ?_⟩
  intro k h1 h2
  have := cut_byt (L := L) (W := kAfter) (i := p) h (k - p) (by simp [kAfter]; omega)
  rw [show p + (k - p) = k from by omega] at this
  rw [this]
  obtain q | q | q | q | q | q | q : k - p = 0 ∨ k - p = 1 ∨ k - p = 2 ∨ k - p = 3 ∨ k - p = 4 ∨ k - p = 5 ∨ k - p = 6 := by omega
  all_goals rw [q]; decide
theorem eqp_array {L : List UInt8} {p : Nat} (h : cut L p (p + 7) = kArray) : EqP L p (p + 7) [121] ∧ EqP L p (p + 6) [] ∧ ∀ k, p ≤ k → k < p + 7 → byt L k ≠ 10 := by
  have e := EqP.word (L := L) (K := [32, 97, 114, 114, 97]) (q := 121) (p := p) h (by decide) (by decide)
  refine ⟨e.1, e.2, ?_⟩
  intro k h1 h2
  have := cut_byt (L := L) (W := kArray) (i := p) h (k - p) (by simp [kArray]; omega)
  rw [show p + (k - p) = k from by omega] at this
  rw [this]
  obtain q | q | q | q | q | q | q : k - p = 0 ∨ k - p = 1 ∨ k - p = 2 ∨ k - p = 3 ∨ k - p = 4 ∨ k - p = 5 ∨ k - p = 6 := by omega
  all_goals rw [q]; decide

/-- An array that was passed. -/
theorem arr_facts {L : List UInt8} {hv0 hv : HV} {p A3 j : Nat} (h : arrH L hv0 (p, false) = (hv, (A3, false))) (hd : digB (byt L A3) = false) (hj : A3 ≤ j) :
    hv = { hv0 with arr := true, arrayAt := p, lo := hv.lo, hi := hv.hi } ∧ numI L (some p) = (hv.lo : Int) ∧ numI L (behO L p j [45]) = (hv.hi : Int) ∧ NoNE L p A3 ∧ p < A3 := by
  unfold arrH at h
  injection h with h1 h2
  have q3 := num_ok (L := L) (s := wd L [45] (numS L (p, false))) (by rw [h2])
  have q2 := wd_ok L [45] _ q3.1
  have q1 := num_ok q2.1
  have E1 : numS L (p, false) = ((numS L (p, false)).1, false) := Prod.ext rfl q2.1
  generalize (numS L (p, false)).1 = A2 at *
  rw [E1] at q2 q3 h2
  have E2 : wd L [45] (A2, false) = (A2 + 1, false) := q2.2.1
  rw [E2] at q3 h2
  have d1 := digs_end E1
  have d2 := digs_end h2
  have b45 : byt L A2 = 45 := cut_byt (L := L) (W := [45]) (i := A2) q2.2.2.1 0 (by simp)
  have hlo : hv.lo = numV L (p, false) := by rw [← h1]
  have hhi : hv.hi = numV L (A2 + 1, false) := by rw [← h1]; show numV L (wd L [45] (numS L (p, false))) = _; rw [E1, E2]
  have vl : numI L (some p) = (numV L (p, false) : Int) := numI_ok (by rw [E1]) (by rw [E1, b45]; rfl)
  have vh : numI L (some (A2 + 1)) = (numV L (A2 + 1, false) : Int) := numI_ok (by rw [h2]) (by rw [h2]; exact hd)
  have bh : behO L p j [45] = some (A2 + 1) := by
    refine beh_one (key := [45]) (p := A2) q2.2.2.1 (by omega) (by simp; omega) ?_
    intro i h1 h2 hc
    have hb := cut_byt (L := L) (W := [45]) (i := i) hc 0 (by simp)
    have hb : byt L i = 45 := hb
    have q := num_ok (L := L) (s := (p, false)) (by rw [E1])
    have hdi : digB (byt L i) = true := by
      rcases q.2.2 with ⟨e, -⟩ | ⟨e, e2, -⟩
      · rw [E1] at e; cases e
        have : i = p := by simp at h2; omega
        subst this; exact q.2.1
      · rw [E1] at e; cases e
        by_cases e3 : i = p
        · subst e3; exact q.2.1
        · have : i = p + 1 := by simp at h2; omega
          subst this; exact e2
    rw [hb] at hdi; cases hdi
  refine ⟨?_, by rw [vl, hlo], by rw [bh, vh, hhi], (d1.2.2.trans (NoNE.one (by rw [b45]; decide))).trans d2.2.2, by omega⟩
  rw [← h1]

theorem head_same {L : List UInt8} {a j : Nat} {hv : HV} (PL : PlainThm L) (hs : seesB L a = true) (hh : headH L (a, false) = (hv, (j, false))) (hend : j = L.length ∨ byt L j = 10) :
    (∀ k, a ≤ k → k < j → byt L k ≠ 10) ∧ a + 3 ≤ j ∧ j ≤ L.length ∧ Same hv (rhd L 700 a j) ∧ (∀ p, behO L a j kAfter = some p → PlainOK 700 (cut L p j)) := by
  have hdE := not_dig_end hend
  have hf4 : (hed4 L (a, false)).2 = false := by
    cases q : (hed4 L (a, false)).2 with
    | false => rfl
    | true =>
      have e : hed4 L (a, false) = ((hed4 L (a, false)).1, true) := Prod.ext rfl q
      unfold headH at hh
      rw [e] at hh
      have := optH_fail L (hedV L (a, false)) (hed4 L (a, false)).1
      rw [hh] at this; cases this
  obtain ⟨p1, n2, t2, F⟩ := front_of hs hf4
  obtain ⟨l1, l2, l3, E1, E2, E3, NL⟩ := F.eqs
  unfold headH at hh
  rw [F.h4] at hh
  cases h32 : sk L 32 (t2, false) with
  | false =>
    have e : optH L (hedV L (a, false)) (t2, false) = (hedV L (a, false), (t2, false)) := by simp [optH, h32]
    rw [e] at hh
    injection hh with e1 e2
    cases e2
    subst e1
    have bA : behO L a j kArray = none := key_no (K := [32, 97, 114, 114, 97]) (q := 121) E3 (by simp)
    have bW : behO L a j kAfter = none := key_no (K := [32, 97, 102, 116, 101]) (q := 114) E3 (by simp)
    refine ⟨NL, by omega, F.le, F.same (Nat.le_refl _) hdE ⟨rfl, rfl, rfl, rfl, rfl, rfl⟩ (Or.inl ⟨bA, rfl, rfl, rfl⟩) (by rw [bW]; rfl), ?_⟩
    intro p hp; rw [bW] at hp; cases hp
  | true =>
    have b32 := sk_ok h32
    have hdt : digB (byt L t2) = false := by rw [b32.2]; rfl
    have w1 := wd_sk h32
    have e : optH L (hedV L (a, false)) (t2, false) = if pk L (wd L [97] (t2 + 1, false)) = 114 then
      if sk L 32 (arrH L (hedV L (a, false)) (wd L [114, 114, 97, 121, 61] (wd L [97] (t2 + 1, false)))).2 then
        aftH L (arrH L (hedV L (a, false)) (wd L [114, 114, 97, 121, 61] (wd L [97] (t2 + 1, false)))).1 (wd L [97] ((arrH L (hedV L (a, false)) (wd L [114, 114, 97, 121, 61] (wd L [97] (t2 + 1, false)))).2.1 + 1, (arrH L (hedV L (a, false)) (wd L [114, 114, 97, 121, 61] (wd L [97] (t2 + 1, false)))).2.2))
      else arrH L (hedV L (a, false)) (wd L [114, 114, 97, 121, 61] (wd L [97] (t2 + 1, false)))
    else aftH L (hedV L (a, false)) (wd L [97] (t2 + 1, false)) := by simp [optH, h32]
    rw [e] at hh
    have wA : wd L [114, 114, 97, 121, 61] (wd L [97] (t2 + 1, false)) = wd L kArray (t2, false) := by
      rw [← w1]; show _ = wd L ([32] ++ ([97] ++ [114, 114, 97, 121, 61])) (t2, false); rw [wd_append, wd_append]
    have wF : wd L [102, 116, 101, 114, 61] (wd L [97] (t2 + 1, false)) = wd L kAfter (t2, false) := by
      rw [← w1]; show _ = wd L ([32] ++ ([97] ++ [102, 116, 101, 114, 61])) (t2, false); rw [wd_append, wd_append]
    by_cases hr : pk L (wd L [97] (t2 + 1, false)) = 114
    · rw [if_pos hr, wA] at hh
      -- the array
      have hfA : (wd L kArray (t2, false)).2 = false := by
        cases q : (wd L kArray (t2, false)).2 with
        | false => rfl
        | true =>
          have e2 : wd L kArray (t2, false) = ((wd L kArray (t2, false)).1, true) := Prod.ext rfl q
          rw [e2] at hh
          have e3 := arrH_fail L (hedV L (a, false)) (wd L kArray (t2, false)).1
          rw [e3] at hh
          rw [if_neg (by simp [sk])] at hh
          rw [hh] at e3; cases e3
      have qA := wd_ok L kArray _ hfA
      have eA : wd L kArray (t2, false) = (t2 + 7, false) := qA.2.1
      have cA : cut L t2 (t2 + 7) = kArray := qA.2.2.1
      have epA := eqp_array cA
      rw [eA] at hh
      have gA := arrH_goes L (hedV L (a, false)) (t2 + 7, false) (qA.2.2.2 (by simp [kArray]))
      have X1 : EqP L a (t2 + 6) [115, 101] := E3.trans (epA.2.1.mono (by simp))
      have X2 : EqP L a (t2 + 7) [115, 101, 121] := (E3.mono (by simp)).trans (epA.1.mono (by simp))
      generalize har : arrH L (hedV L (a, false)) (t2 + 7, false) = r at *
      obtain ⟨hv2, A3, f3⟩ := r
      simp only at hh gA
      cases hs3 : sk L 32 (A3, f3) with
      | false =>
        rw [if_neg (by rw [hs3]; decide)] at hh
        injection hh with e1 e2
        cases e2
        subst e1
        obtain ⟨f1, f2, f4, f5, f6⟩ := arr_facts har hdE (Nat.le_refl _)
        have X3 : EqP L a j [115, 101, 121] := X2.trans (EqP.of f5 _)
        have bA : behO L a j kArray = some (t2 + 7) := key_one (K := [32, 97, 114, 114, 97]) (q := 121) cA (by omega) (by simp; omega) X1 (by simp)
        have bW : behO L a j kAfter = none := key_no (K := [32, 97, 102, 116, 101]) (q := 114) X3 (by simp)
        refine ⟨?_, by omega, gA.2, F.same (by omega) hdt (by rw [f1]; exact ⟨rfl, rfl, rfl, rfl, rfl, rfl⟩) (Or.inr ⟨t2 + 7, bA, by rw [f1], f2, f4, by rw [f1]⟩) (by rw [bW, f1]; rfl), ?_⟩
        · intro k h1 h2
          by_cases c1 : k < t2
          · exact NL k h1 c1
          by_cases c2 : k < t2 + 7
          · exact epA.2.2 k (by omega) c2
          · exact (f5 k (by omega) h2).2
        · intro p hp; rw [bW] at hp; cases hp
      | true =>
        rw [if_pos hs3] at hh
        have hk3 := sk_lt hs3
        have hf3 : f3 = false := hk3.2.1
        subst hf3
        have b3 := sk_ok hs3
        have w3 := wd_sk hs3
        have wF3 : wd L [102, 116, 101, 114, 61] (wd L [97] (A3 + 1, false)) = wd L kAfter (A3, false) := by
          rw [← w3]; show _ = wd L ([32] ++ ([97] ++ [102, 116, 101, 114, 61])) (A3, false); rw [wd_append, wd_append]
        obtain ⟨z1, z2, z3, z4, z5, z6, z7⟩ := aft_facts PL gA.2 wF3 hh
        obtain ⟨f1, f2, f4, f5, f6⟩ := arr_facts (j := j) har (by rw [b3.2]; rfl) (by omega)
        have X3 : EqP L a A3 [115, 101, 121] := X2.trans (EqP.of f5 _)
        have epW := eqp_after z1
        have bA : behO L a j kArray = some (t2 + 7) := key_one (K := [32, 97, 114, 114, 97]) (q := 121) cA (by omega) (by simp; omega) X1 (by simp)
        have bW : behO L a j kAfter = some (A3 + 7) := key_one (K := [32, 97, 102, 116, 101]) (q := 114) z1 (by omega) (by simp; omega) (X3.trans (epW.2.1.mono (by simp))) (by simp)
        refine ⟨?_, by omega, z7, F.same (by omega) hdt (by rw [z2, f1]; exact ⟨rfl, rfl, rfl, rfl, rfl, rfl⟩) (Or.inr ⟨t2 + 7, bA, by rw [z2, f1], by rw [f2, z2], by rw [f4, z2], by rw [z2, f1]⟩) (by rw [bW]; exact z4), ?_⟩
        · intro k h1 h2
          by_cases c1 : k < t2
          · exact NL k h1 c1
          by_cases c2 : k < t2 + 7
          · exact epA.2.2 k (by omega) c2
          by_cases c3 : k < A3
          · exact (f5 k (by omega) c3).2
          by_cases c4 : k < A3 + 7
          · exact epW.2.2 k (by omega) c4
          · exact (z5 k (by omega) h2).2
        · intro p hp; rw [bW] at hp; cases hp; exact z3
    · rw [if_neg hr] at hh
      obtain ⟨z1, z2, z3, z4, z5, z6, z7⟩ := aft_facts PL F.le wF hh
      have epW := eqp_after z1
      have X4 : EqP L a j [115, 101, 114] := ((E3.mono (by simp)).trans (epW.1.mono (by simp))).trans (EqP.of z5 _)
      have bA : behO L a j kArray = none := key_no (K := [32, 97, 114, 114, 97]) (q := 121) X4 (by simp)
      have bW : behO L a j kAfter = some (t2 + 7) := key_one (K := [32, 97, 102, 116, 101]) (q := 114) z1 (by omega) (by simp; omega) (E3.trans (epW.2.1.mono (by simp))) (by simp)
      refine ⟨?_, by omega, z7, F.same (by omega) hdt (by rw [z2]; exact ⟨rfl, rfl, rfl, rfl, rfl, rfl⟩) (Or.inl ⟨bA, by rw [z2]; rfl, by rw [z2]; rfl, by rw [z2]; rfl⟩) (by rw [bW]; exact z4), ?_⟩
      · intro k h1 h2
        by_cases c1 : k < t2
        · exact NL k h1 c1
        by_cases c4 : k < t2 + 7
        · exact epW.2.2 k (by omega) c4
        · exact (z5 k (by omega) h2).2
      · intro p hp; rw [bW] at hp; cases hp; exact z3

end Go.Proofs.Ytanknpmojblmcaa
