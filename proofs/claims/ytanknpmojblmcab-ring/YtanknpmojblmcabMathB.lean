/-
  Plain mathematics: the reader of the program and the stations of the document's answer go together: references, factors, terms, wants.
-/
import Derived.Test.YtanknpmojblmcabMathA
set_option linter.unusedSimpArgs false
set_option linter.unusedVariables false
namespace Go.Proofs.Ytanknpmojblmcab

/-- Behind a factor, with d brackets open, in the h-th head. -/
def FacEnd (L : List UInt8) (d h : Nat) (st : ST) (i : Nat) : Prop :=
  st.op = d ∧ st.hd = h ∧ (st.wh = 9 ∨ (st.wh = 8 ∧ NameEnd L st i ∧ byt L i ≠ 91))
theorem FacEnd.step {L : List UInt8} {d h : Nat} {st : ST} {i : Nat} (q : FacEnd L d h st i) : stepO st (byt L i) = behindO st (byt L i) := by
  obtain ⟨h1, h2, h3 | ⟨h3, h4, h5⟩⟩ := q
  · unfold stepO; simp [h3]
  · unfold stepO
    rw [if_neg (by omega), if_pos (Or.inr h3)]
    unfold nameO
    obtain ⟨a, b, c⟩ := h4
    rw [if_neg (by rintro ⟨x, y⟩; rw [c y] at x; cases x), if_neg (by omega), if_neg (by omega), if_neg h5]
theorem FacEnd.whole {L : List UInt8} {d h : Nat} {st : ST} {i : Nat} (q : FacEnd L d h st i) (hh : h ≠ 0) : wholeB st = decide (d = 0) := by
  obtain ⟨h1, h2, h3 | ⟨h3, h4, h5⟩⟩ := q
  · unfold wholeB; simp [h2, hh, h3, h1]
  · have := h4.1
    unfold wholeB; simp [h2, hh, h3, h1]; omega

theorem sk_byt {L : List UInt8} {c j : Nat} (h : sk L c (j, false) = false) (hl : j < L.length) : byt L j ≠ c := by
  intro e; simp [sk, hl, e] at h

theorem sim_ref {L : List UInt8} {st : ST} {i d h : Nat} (hw : st.wh = 8) (hk : st.k = 0) (ho : st.op = d) (hh : st.hd = h) (hi : i ≤ L.length) :
    Sim L st i (refS L (i, false)) (fun st' => FacEnd L d h st' (refS L (i, false)).1) := by
  have hg := nmS_goes L (i, false) hi
  have h1 := sim_nm (L := L) (st := st) (i := i) (Or.inr hw) hk hi
  have e : refS L (i, false) = (fun s => if sk L 91 s then wd L [93] (numS L (s.1 + 1, s.2)) else s) (nmS L (i, false)) := rfl
  rw [e]
  refine h1.then (fun s => if sk L 91 s then wd L [93] (numS L (s.1 + 1, s.2)) else s) (by intro j; simp [sk]) ?_
  rintro st1 hf ⟨rfl, hn⟩
  have es : nmS L (i, false) = (i + lets L 6 i, false) := by
    have e1 : nmS L (i, false) = (i + lets L 6 i, lets L 6 i == 0) := by simp [nmS]
    rw [e1] at hf ⊢
    simp only at hf; rw [hf]
  rw [es]
  simp only
  generalize lets L 6 i = m at *
  cases hs : sk L 91 (i + m, false) with
  | false =>
    rw [if_neg (by decide)]
    refine Sim.go rfl ⟨ho, hh, Or.inr ⟨hw, hn, ?_⟩⟩
    by_cases hl : i + m < L.length
    · exact sk_byt hs hl
    · show byt L (i + m) ≠ 91
      rw [byt_out (by omega)]; decide
  | true =>
    rw [if_pos rfl]
    have hk2 := sk_lt hs
    have hl : i + m < L.length := hk2.1
    have hst : stepO { st with k := m } (byt L (i + m)) = some (goS { st with k := m } 5 4) := by
      have hb : byt L (i + m) = 91 := hk2.2.2
      unfold stepO
      rw [if_neg (by simp [hw]), if_pos (Or.inr hw)]
      unfold nameO
      have := hn.1
      rw [hb, if_neg (by simp [letB]), if_neg (by show m ≠ 0; simp at this; omega), if_neg (by simp [hw]), if_pos rfl]
    have hpl := pl_step hl hst
    have h2 := sim_num (L := L) (st := goS { st with k := m } 5 4) (i := i + m + 1) rfl rfl (by omega)
    have hg2 := numS_goes L (i + m + 1, false) (by show i + m + 1 ≤ _; omega)
    have key : Sim L (goS { st with k := m } 5 4) (i + m + 1) (wd L [93] (numS L (i + m + 1, false))) (fun st' => FacEnd L d h st' (wd L [93] (numS L (i + m + 1, false))).1) := by
      refine h2.then (wd L [93]) (wd_fail L [93]) ?_
      rintro st2 hf2 ⟨⟨k, no, rfl⟩, hne⟩
      have es2 : numS L (i + m + 1, false) = ((numS L (i + m + 1, false)).1, false) := Prod.ext rfl hf2
      rw [es2]
      have hle := hg2.2
      generalize (numS L (i + m + 1, false)).1 = j at *
      have h3 := sim_begun (L := L) (st := { goS { st with k := m } 5 4 with k := k, no := no }) (i := j) (w := 12) (c := 93) (W := []) (R := []) hle rfl
        (by
          intro hl2
          unfold stepO
          rw [if_neg (by simp [goS]), if_neg (by simp [goS]), if_pos (by simp [goS])]
          unfold numberO
          have hk1 : 1 ≤ k := hne.1
          rw [if_neg (by
            rintro ⟨a, b | ⟨b, c⟩⟩
            · simp at b; omega
            · exact hne.2 ⟨a, b, c⟩), if_neg (by show k ≠ 0; omega), if_neg (by simp [goS]), if_neg (by simp [goS]), if_pos (by simp [goS])])
        (by intro _; unfold wholeB; simp [goS])
      refine h3.mono ?_
      rintro st3 hf3 rfl
      exact ⟨ho, hh, Or.inl rfl⟩
    rcases key with ⟨a, b⟩ | ⟨a, x, b, c⟩
    · exact Or.inl ⟨a, hpl.trans b⟩
    · exact Or.inr ⟨a, x, hpl.trans b, c⟩

theorem refS_fail (L : List UInt8) (j : Nat) : refS L (j, true) = (j, true) := by simp [refS, nmS, sk]
theorem leafS_fail (L : List UInt8) (j : Nat) : leafS L (j, true) = (j, true) := by simp [leafS, pk]

theorem sim_leaf {L : List UInt8} {st : ST} {i d h : Nat} (hw : st.wh = 7) (ho : st.op = d) (hh : st.hd = h) (hi : i ≤ L.length) (h40 : pk L (i, false) ≠ 40) :
    Sim L st i (leafS L (i, false)) (fun st' => FacEnd L d h st' (leafS L (i, false)).1) := by
  have hp : pk L (i, false) = byt L i := by simp [pk]
  rw [hp] at h40
  have stp : ∀ c, stepO st c = factorO st c := by intro c; unfold stepO; simp [hw]
  have wh7 : i = L.length → wholeB st = false := by intro _; unfold wholeB; simp [hw]
  unfold leafS
  rw [hp]
  by_cases h1 : byt L i = 115
  · rw [if_pos h1]
    refine (sim_begun (w := 11) (c := 115) (W := [105, 110, 103, 108, 101]) (R := []) hi rfl (by intro _; rw [stp, h1]; rfl) wh7).mono ?_
    rintro st1 hf rfl
    exact ⟨ho, hh, Or.inl rfl⟩
  rw [if_neg h1]
  by_cases h2 : byt L i = 111
  · rw [if_pos h2]
    have a := sim_begun (L := L) (st := st) (w := 8) (c := 111) (W := [107, 58]) (R := []) hi rfl (by intro _; rw [stp, h2]; rfl) wh7
    have hg := wd_goes L [111, 107, 58] (i, false) hi
    refine a.then (refS L) (refS_fail L) ?_
    rintro st1 hf rfl
    have es : wd L [111, 107, 58] (i, false) = ((wd L [111, 107, 58] (i, false)).1, false) := Prod.ext rfl hf
    rw [es]
    exact sim_ref rfl rfl ho hh hg.2
  rw [if_neg h2]
  by_cases h3 : byt L i = 97
  · rw [if_pos h3]
    have a := sim_begun (L := L) (st := st) (w := 9) (c := 97) (W := [110, 121, 58]) (R := []) hi rfl (by intro _; rw [stp, h3]; rfl) wh7
    have hg := wd_goes L [97, 110, 121, 58] (i, false) hi
    refine a.then (refS L) (refS_fail L) ?_
    rintro st1 hf rfl
    have es : wd L [97, 110, 121, 58] (i, false) = ((wd L [97, 110, 121, 58] (i, false)).1, false) := Prod.ext rfl hf
    rw [es]
    exact sim_ref rfl rfl ho hh hg.2
  rw [if_neg h3]
  by_cases h4 : byt L i = 110
  · rw [if_pos h4]
    have a := sim_begun (L := L) (st := st) (w := 10) (c := 110) (W := [111, 116, 58]) (R := []) hi rfl (by intro _; rw [stp, h4]; rfl) wh7
    have hg := wd_goes L [110, 111, 116, 58] (i, false) hi
    refine a.then (refS L) (refS_fail L) ?_
    rintro st1 hf rfl
    have es : wd L [110, 111, 116, 58] (i, false) = ((wd L [110, 111, 116, 58] (i, false)).1, false) := Prod.ext rfl hf
    rw [es]
    exact sim_ref rfl rfl ho hh hg.2
  rw [if_neg h4]
  refine Sim.fail ?_
  by_cases hl : i < L.length
  · refine pl_none hl ?_
    rw [stp]; unfold factorO
    rw [if_neg h40, if_neg h2, if_neg h3, if_neg h4, if_neg h1]
  · exact pl_end (by omega) (wh7 (by omega))

/-- What a part of a want does, as seen by the stations. -/
def PSim (L : List UInt8) (d h : Nat) (F : Nat × Bool → (List UInt8 × Nat) × (Nat × Bool)) : Prop :=
  ∀ (st : ST) (i : Nat), st.wh = 7 → st.op = d → st.hd = h → i ≤ L.length → Sim L st i (F (i, false)).2 (fun st' => FacEnd L d h st' (F (i, false)).2.1)
def FFail (F : Nat × Bool → (List UInt8 × Nat) × (Nat × Bool)) : Prop := ∀ j, (F (j, true)).2 = (j, true)

theorem step_amp {L : List UInt8} {d h j c : Nat} {st : ST} (q : FacEnd L d h st j) (hl : j < L.length) (hb : byt L j = c) (hc : c = 38 ∨ c = 124) : pl L st j = pl L (goS st 7 0) (j + 1) := by
  refine pl_step hl ?_
  rw [q.step, hb]
  unfold behindO
  rw [if_pos hc]

theorem sim_termL {L : List UInt8} {d h : Nat} {F : Nat × Bool → (List UInt8 × Nat) × (Nat × Bool)} (hF : PSim L d h F) (hff : FFail F) (hg : GoodF L F) (n : Nat) :
    ∀ (st : ST) (j : Nat) (t : List UInt8), j ≤ L.length → L.length - j ≤ n → FacEnd L d h st j → Sim L st j (termL L F n (j, false) t).2 (fun st' => FacEnd L d h st' (termL L F n (j, false) t).2.1 ∧ sk L 38 (termL L F n (j, false) t).2 = false) := by
  induction n with
  | zero =>
    intro st j t hj hn q
    have e : termL L F 0 (j, false) t = (t, (j, false)) := rfl
    rw [e]
    exact Sim.go rfl ⟨q, by simp [sk]; omega⟩
  | succ n ih =>
    intro st j t hj hn q
    cases hs : sk L 38 (j, false) with
    | false =>
      have e : termL L F (n + 1) (j, false) t = (t, (j, false)) := by simp [termL, hs]
      rw [e]
      exact Sim.go rfl ⟨q, hs⟩
    | true =>
      have hk := sk_lt hs
      have hl : j < L.length := hk.1
      have e : termL L F (n + 1) (j, false) t = termL L F n (F (j + 1, false)).2 (t ++ 38 :: asF (F (j + 1, false)).1) := by simp [termL, hs]
      have hgo := hg (j + 1, false) hl
      have h1 := hF (goS st 7 0) (j + 1) rfl q.1 q.2.1 hl
      have hpl := step_amp q hl hk.2.2 (Or.inl rfl)
      rw [e]
      generalize t ++ 38 :: asF (F (j + 1, false)).1 = t2
      generalize (F (j + 1, false)).2 = s at *
      obtain ⟨j2, f2⟩ := s
      rcases h1 with ⟨a, b⟩ | ⟨a, st2, b, c⟩
      · simp only at a b; subst a
        have e2 : (termL L F n (j2, true) t2).2 = (j2, true) := by cases n <;> simp [termL, sk]
        rw [e2]; exact Sim.fail (hpl.trans b)
      · simp only at a b c; subst a
        have hle : j2 ≤ L.length := hgo.1.2
        have hge : j + 1 ≤ j2 := hgo.1.1
        rcases ih st2 j2 t2 hle (by omega) c with ⟨x, y⟩ | ⟨x, st3, y, z⟩
        · exact Or.inl ⟨x, (hpl.trans b).trans y⟩
        · exact Or.inr ⟨x, st3, (hpl.trans b).trans y, z⟩

theorem termF_fail {L : List UInt8} {F : Nat × Bool → (List UInt8 × Nat) × (Nat × Bool)} (hff : FFail F) : FFail (termF L F) := by
  intro j; unfold termF; rw [hff j]; simp [pk, hff j]

theorem sim_termF {L : List UInt8} {d h : Nat} {F : Nat × Bool → (List UInt8 × Nat) × (Nat × Bool)} (hF : PSim L d h F) (hff : FFail F) (hg : GoodF L F) :
    ∀ (st : ST) (i : Nat), st.wh = 7 → st.op = d → st.hd = h → i ≤ L.length → Sim L st i (termF L F (i, false)).2 (fun st' => FacEnd L d h st' (termF L F (i, false)).2.1 ∧ sk L 38 (termF L F (i, false)).2 = false) := by
  intro st i hw ho hh hi
  have h1 := hF st i hw ho hh hi
  have hgo := hg (i, false) hi
  unfold termF
  by_cases h38 : pk L (F (i, false)).2 = 38
  · rw [if_pos h38]
    simp only
    generalize asF (F (i, false)).1 = t
    generalize (F (i, false)).2 = s at *
    obtain ⟨j, f⟩ := s
    rcases h1 with ⟨a, b⟩ | ⟨a, st2, b, c⟩
    · simp only at a; subst a; simp [pk] at h38
    · simp only at a b c; subst a
      rcases sim_termL hF hff hg L.length st2 j t hgo.1.2 (by omega) c with ⟨x, y⟩ | ⟨x, st3, y, z⟩
      · exact Or.inl ⟨x, b.trans y⟩
      · exact Or.inr ⟨x, st3, b.trans y, z⟩
  · rw [if_neg h38]
    refine h1.mono ?_
    intro st' hf q
    refine ⟨q, ?_⟩
    generalize (F (i, false)).2 = s at *
    obtain ⟨j, f⟩ := s
    simp only at hf; subst hf
    cases hs : sk L 38 (j, false) with
    | false => rfl
    | true => have := sk_lt hs; exfalso; apply h38; simp [pk, this.2.2]

theorem sim_wantL {L : List UInt8} {d h : Nat} {F : Nat × Bool → (List UInt8 × Nat) × (Nat × Bool)} (hF : PSim L d h F) (hff : FFail F) (hg : GoodF L F) (n : Nat) :
    ∀ (st : ST) (j : Nat) (p : List UInt8 × Nat), j ≤ L.length → L.length - j ≤ n → FacEnd L d h st j → sk L 38 (j, false) = false → Sim L st j (wantL L F n (j, false) p).2 (fun st' => FacEnd L d h st' (wantL L F n (j, false) p).2.1 ∧ sk L 38 (wantL L F n (j, false) p).2 = false ∧ sk L 124 (wantL L F n (j, false) p).2 = false) := by
  induction n with
  | zero =>
    intro st j p hj hn q h38
    have e : wantL L F 0 (j, false) p = (p, (j, false)) := rfl
    rw [e]
    exact Sim.go rfl ⟨q, h38, by simp [sk]; omega⟩
  | succ n ih =>
    intro st j p hj hn q h38
    cases hs : sk L 124 (j, false) with
    | false =>
      have e : wantL L F (n + 1) (j, false) p = (p, (j, false)) := by simp [wantL, hs]
      rw [e]
      exact Sim.go rfl ⟨q, h38, hs⟩
    | true =>
      have hk := sk_lt hs
      have hl : j < L.length := hk.1
      have e : wantL L F (n + 1) (j, false) p = wantL L F n (termF L F (j + 1, false)).2 (p.1 ++ 124 :: (termF L F (j + 1, false)).1.1, p.2 + (termF L F (j + 1, false)).1.2) := by simp [wantL, hs]
      have hgo := termF_good hg (j + 1, false) hl
      have h1 := sim_termF hF hff hg (goS st 7 0) (j + 1) rfl q.1 q.2.1 hl
      have hpl := step_amp q hl hk.2.2 (Or.inr rfl)
      rw [e]
      generalize (p.1 ++ 124 :: (termF L F (j + 1, false)).1.1, p.2 + (termF L F (j + 1, false)).1.2) = p2
      generalize (termF L F (j + 1, false)).2 = s at *
      obtain ⟨j2, f2⟩ := s
      rcases h1 with ⟨a, b⟩ | ⟨a, st2, b, c, c2⟩
      · simp only at a b; subst a
        have e2 : (wantL L F n (j2, true) p2).2 = (j2, true) := by cases n <;> simp [wantL, sk]
        rw [e2]; exact Sim.fail (hpl.trans b)
      · simp only at a b c; subst a
        have hle : j2 ≤ L.length := hgo.1.2
        have hge : j + 1 ≤ j2 := hgo.1.1
        rcases ih st2 j2 p2 hle (by omega) c c2 with ⟨x, y⟩ | ⟨x, st3, y, z⟩
        · exact Or.inl ⟨x, (hpl.trans b).trans y⟩
        · exact Or.inr ⟨x, st3, (hpl.trans b).trans y, z⟩

theorem wantF_fail {L : List UInt8} {F : Nat × Bool → (List UInt8 × Nat) × (Nat × Bool)} (hff : FFail F) : FFail (wantF L F) := by
  intro j; unfold wantF; rw [termF_fail hff j]
  cases L.length <;> simp [wantL, sk]

theorem sim_wantF {L : List UInt8} {d h : Nat} {F : Nat × Bool → (List UInt8 × Nat) × (Nat × Bool)} (hF : PSim L d h F) (hff : FFail F) (hg : GoodF L F) :
    ∀ (st : ST) (i : Nat), st.wh = 7 → st.op = d → st.hd = h → i ≤ L.length → Sim L st i (wantF L F (i, false)).2 (fun st' => FacEnd L d h st' (wantF L F (i, false)).2.1 ∧ sk L 38 (wantF L F (i, false)).2 = false ∧ sk L 124 (wantF L F (i, false)).2 = false) := by
  intro st i hw ho hh hi
  have h1 := sim_termF hF hff hg st i hw ho hh hi
  have hgo := termF_good hg (i, false) hi
  unfold wantF
  generalize (termF L F (i, false)).1 = p
  generalize (termF L F (i, false)).2 = s at *
  obtain ⟨j, f⟩ := s
  rcases h1 with ⟨a, b⟩ | ⟨a, st2, b, c, c2⟩
  · simp only at a b; subst a
    have e2 : (wantL L F L.length (j, true) p).2 = (j, true) := by cases L.length <;> simp [wantL, sk]
    rw [e2]; exact Sim.fail b
  · simp only at a b c; subst a
    rcases sim_wantL hF hff hg L.length st2 j p hgo.1.2 (by omega) c c2 with ⟨x, y⟩ | ⟨x, st3, y, z⟩
    · exact Or.inl ⟨x, b.trans y⟩
    · exact Or.inr ⟨x, st3, b.trans y, z⟩

theorem fac_fail (L : List UInt8) (n : Nat) : FFail (fac L n) := by
  intro j
  cases n <;> simp [fac, pk, leafS_fail]

/-- What stands behind a want within brackets. -/
theorem sim_close {L : List UInt8} {d h j : Nat} {st : ST} (q : FacEnd L (d + 1) h st j) (hh : h ≠ 0) (hj : j ≤ L.length) (h38 : sk L 38 (j, false) = false) (h124 : sk L 124 (j, false) = false) :
    Sim L st j (wd L [41] (j, false)) (fun st' => FacEnd L d h st' (wd L [41] (j, false)).1) := by
  cases hs : sk L 41 (j, false) with
  | true =>
    have hk := sk_lt hs
    have hl : j < L.length := hk.1
    have e : wd L [41] (j, false) = (j + 1, false) := by simp [wd, hs]
    rw [e]
    have hst : stepO st (byt L j) = some (goS { st with op := st.op - 1 } 9 0) := by
      have hb : byt L j = 41 := hk.2.2
      have h1 := q.1
      rw [q.step, hb]; unfold behindO
      rw [if_neg (by omega), if_pos ⟨rfl, by omega⟩]
    exact Sim.go (pl_step hl hst) ⟨by show st.op - 1 = d; have := q.1; omega, q.2.1, Or.inl rfl⟩
  | false =>
    have e : wd L [41] (j, false) = (j, true) := by simp [wd, hs]
    rw [e]
    refine Sim.fail ?_
    by_cases hl : j < L.length
    · refine pl_none hl ?_
      have b1 := sk_byt hs hl; have b2 := sk_byt h38 hl; have b3 := sk_byt h124 hl
      have h1 := q.1
      rw [q.step]; unfold behindO
      rw [if_neg (by omega), if_neg (by omega), if_neg (by omega)]
    · exact pl_end (by omega) (by rw [q.whole hh]; simp)

theorem sim_fac (L : List UInt8) (h : Nat) (hh : h ≠ 0) (n : Nat) : ∀ d, d + n = 4 → PSim L d h (fac L n) := by
  induction n with
  | zero =>
    intro d hd st i hw ho hhd hi
    by_cases h40 : pk L (i, false) = 40
    · have e : (fac L 0 (i, false)).2 = (i, true) := by simp [fac, h40]
      rw [e]
      refine Sim.fail ?_
      obtain ⟨hl, -, -⟩ := wd40 h40
      have hl : i < L.length := hl
      refine pl_none hl ?_
      have hb : byt L i = 40 := by simpa [pk] using h40
      unfold stepO; simp [hw]; unfold factorO
      rw [if_pos hb, if_neg (by omega)]
    · have e : (fac L 0 (i, false)).2 = leafS L (i, false) := by simp [fac, h40]
      rw [e]
      exact sim_leaf hw ho hhd hi h40
  | succ n ih =>
    intro d hd st i hw ho hhd hi
    by_cases h40 : pk L (i, false) = 40
    · obtain ⟨hl, -, he⟩ := wd40 h40
      have hl : i < L.length := hl
      have e : (fac L (n + 1) (i, false)).2 = wd L [41] (wantF L (fac L n) (i + 1, false)).2 := by simp [fac, h40, he]
      rw [e]
      have hb : byt L i = 40 := by simpa [pk] using h40
      have hst : stepO st (byt L i) = some { st with op := st.op + 1 } := by
        unfold stepO; simp [hw]; unfold factorO
        rw [if_pos hb, if_pos (by omega), hw]
      have hpl := pl_step hl hst
      have h1 := sim_wantF (ih (d + 1) (by omega)) (fac_fail L n) (fac_good L n) { st with op := st.op + 1 } (i + 1) hw (by simp [ho]) hhd hl
      have hgo := wantF_good (fac_good L n) (i + 1, false) hl
      generalize (wantF L (fac L n) (i + 1, false)).2 = s at *
      have key : Sim L { st with op := st.op + 1 } (i + 1) (wd L [41] s) (fun st' => FacEnd L d h st' (wd L [41] s).1) := by
        refine h1.then (wd L [41]) (wd_fail L [41]) ?_
        rintro st2 hf ⟨q1, q2, q3⟩
        obtain ⟨j, f⟩ := s
        simp only at hf; subst hf
        exact sim_close q1 hh hgo.1.2 q2 q3
      rcases key with ⟨a, b⟩ | ⟨a, x, b, c⟩
      · exact Or.inl ⟨a, hpl.trans b⟩
      · exact Or.inr ⟨a, x, hpl.trans b, c⟩
    · have e : (fac L (n + 1) (i, false)).2 = leafS L (i, false) := by simp [fac, h40]
      rw [e]
      exact sim_leaf hw ho hhd hi h40

/-- The want of a head. -/
theorem sim_want (L : List UInt8) (h : Nat) (hh : h ≠ 0) : ∀ (st : ST) (i : Nat), st.wh = 7 → st.op = 0 → st.hd = h → i ≤ L.length → Sim L st i (wantF L (fac L 4) (i, false)).2 (fun st' => FacEnd L 0 h st' (wantF L (fac L 4) (i, false)).2.1 ∧ sk L 38 (wantF L (fac L 4) (i, false)).2 = false ∧ sk L 124 (wantF L (fac L 4) (i, false)).2 = false) :=
  sim_wantF (sim_fac L h hh 4 0 rfl) (fac_fail L 4) (fac_good L 4)

end Go.Proofs.Ytanknpmojblmcab
