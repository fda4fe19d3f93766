/-
  Plain mathematics: the reader of the program and the stations of the document's answer go together: words, names, numbers.
-/
import Derived.Test.YtanknpmojblmcabSpec3
import Derived.Test.YtanknpmojblmcabRSpec
set_option linter.unusedSimpArgs false
set_option linter.unusedVariables false
namespace Go.Proofs.Ytanknpmojblmcab

/-- The place of the error of what is left of a text from i on. -/
def pl (L : List UInt8) (st : ST) (i : Nat) : Option Nat := placeO st (L.drop i) i
theorem pl_step {L : List UInt8} {st st' : ST} {i : Nat} (h : i < L.length) (hs : stepO st (byt L i) = some st') : pl L st i = pl L st' (i + 1) := by
  unfold pl
  have hb : byt L i = L[i].toNat := by simp [byt, List.getD_eq_getElem?_getD, List.getElem?_eq_getElem h]
  rw [hb] at hs
  rw [List.drop_eq_getElem_cons h]
  conv => lhs; unfold placeO
  rw [hs]
theorem pl_none {L : List UInt8} {st : ST} {i : Nat} (h : i < L.length) (hs : stepO st (byt L i) = none) : pl L st i = some i := by
  unfold pl
  have hb : byt L i = L[i].toNat := by simp [byt, List.getD_eq_getElem?_getD, List.getElem?_eq_getElem h]
  rw [hb] at hs
  rw [List.drop_eq_getElem_cons h]
  unfold placeO
  rw [hs]
theorem pl_end {L : List UInt8} {st : ST} {i : Nat} (h : i = L.length) (hs : wholeB st = false) : pl L st i = some i := by
  unfold pl
  rw [List.drop_eq_nil_of_le (by omega), placeO, hs]; rfl
theorem pl_whole {L : List UInt8} {st : ST} {i : Nat} (h : i = L.length) (hs : wholeB st = true) : pl L st i = none := by
  unfold pl
  rw [List.drop_eq_nil_of_le (by omega), placeO, hs]; rfl
theorem pl_same {L : List UInt8} {st st' : ST} {i : Nat} (h : i < L.length) (hs : stepO st (byt L i) = stepO st' (byt L i)) : pl L st i = pl L st' i := by
  cases h' : stepO st' (byt L i) with
  | none => rw [pl_none h (hs.trans h'), pl_none h h']
  | some x => rw [pl_step h (hs.trans h'), pl_step h h']

/-- From the station st at i the reader came to s: it failed just there, or the stations go on from one of which P holds. -/
def Sim (L : List UInt8) (st : ST) (i : Nat) (s : Nat × Bool) (P : ST → Prop) : Prop :=
  (s.2 = true ∧ pl L st i = some s.1) ∨ (s.2 = false ∧ ∃ st', pl L st i = pl L st' s.1 ∧ P st')
theorem Sim.fail {L : List UInt8} {st : ST} {i j : Nat} {P : ST → Prop} (h : pl L st i = some j) : Sim L st i (j, true) P := Or.inl ⟨rfl, h⟩
theorem Sim.go {L : List UInt8} {st st' : ST} {i j : Nat} {P : ST → Prop} (h : pl L st i = pl L st' j) (hP : P st') : Sim L st i (j, false) P := Or.inr ⟨rfl, st', h, hP⟩
/-- One part behind the other: a reader that failed stays where it is. -/
theorem Sim.then {L : List UInt8} {st : ST} {i : Nat} {s : Nat × Bool} {P Q : ST → Prop} (h : Sim L st i s P) (F : Nat × Bool → Nat × Bool) (hF : ∀ j, F (j, true) = (j, true))
    (k : ∀ st', s.2 = false → P st' → Sim L st' s.1 (F (s.1, false)) Q) : Sim L st i (F s) Q := by
  obtain ⟨j, f⟩ := s
  rcases h with ⟨hf, hp⟩ | ⟨hf, st', hp, hP⟩
  · simp only at hf hp; subst hf; rw [hF]; exact Sim.fail hp
  · simp only at hf hp; subst hf
    rcases k st' rfl hP with ⟨a, b⟩ | ⟨a, st2, b, c⟩
    · exact Or.inl ⟨a, hp.trans b⟩
    · exact Or.inr ⟨a, st2, hp.trans b, c⟩
theorem Sim.mono {L : List UInt8} {st : ST} {i : Nat} {s : Nat × Bool} {P Q : ST → Prop} (h : Sim L st i s P) (k : ∀ st', s.2 = false → P st' → Q st') : Sim L st i s Q := by
  rcases h with h | ⟨a, st', b, c⟩
  · exact Or.inl h
  · exact Or.inr ⟨a, st', b, k st' a c⟩
theorem Sim.from {L : List UInt8} {st st' : ST} {i : Nat} {s : Nat × Bool} {P : ST → Prop} (e : pl L st i = pl L st' i) (h : Sim L st' i s P) : Sim L st i s P := by
  rcases h with ⟨a, b⟩ | ⟨a, x, b, c⟩
  · exact Or.inl ⟨a, e.trans b⟩
  · exact Or.inr ⟨a, x, e.trans b, c⟩

theorem Sim.from' {L : List UInt8} {st st' : ST} {i j : Nat} {s : Nat × Bool} {P : ST → Prop} (e : pl L st i = pl L st' j) (h : Sim L st' j s P) : Sim L st i s P := by
  rcases h with ⟨a, b⟩ | ⟨a, x, b, c⟩
  · exact Or.inl ⟨a, e.trans b⟩
  · exact Or.inr ⟨a, x, e.trans b, c⟩
theorem Sim.then' {L : List UInt8} {st : ST} {i : Nat} {s : Nat × Bool} {P : ST → Prop} (h : Sim L st i s P) (F : Nat × Bool → Nat × Bool) (hF : ∀ j, F (j, true) = (j, true)) (Q : ST → Nat × Bool → Prop)
    (k : ∀ st', s.2 = false → P st' → Sim L st' s.1 (F (s.1, false)) (fun st' => Q st' (F (s.1, false)))) : Sim L st i (F s) (fun st' => Q st' (F s)) := by
  obtain ⟨j, f⟩ := s
  rcases h with ⟨hf, hp⟩ | ⟨hf, st', hp, hP⟩
  · simp only at hf hp; subst hf; rw [hF]; exact Sim.fail hp
  · simp only at hf hp; subst hf
    exact Sim.from' hp (k st' rfl hP)
theorem pk_40' {c : Nat} {L : List UInt8} {s : Nat × Bool} (h : pk L s = c) (h0 : c ≠ 0) : s.2 = false ∧ s.1 < L.length := by
  unfold pk at h
  split at h
  · omega
  · rename_i hf; exact ⟨by simpa using hf, byt_in (by omega)⟩

theorem wd_fail (L W : List UInt8) (j : Nat) : wd L W (j, true) = (j, true) := by
  cases W with
  | nil => rfl
  | cons c r => simp [wd, sk]
theorem nmS_fail (L : List UInt8) (j : Nat) : nmS L (j, true) = (j, true) := by simp [nmS]
theorem numS_fail (L : List UInt8) (j : Nat) : numS L (j, true) = (j, true) := by simp [numS, pk, digB]

/-- The station behind m bytes more of its piece. -/
def litTo (st : ST) (m : Nat) : ST :=
  if st.k + m < (pieceL st.which).length then { st with k := st.k + m } else goS st (litN st.which).1 (litN st.which).2
theorem litO_yes {st : ST} {c : Nat} (h : st.k < (pieceL st.which).length) (hc : byt (pieceL st.which) st.k = c) : litO st c = some (litTo st 1) := by
  unfold litO litTo
  rw [if_pos ⟨h, hc⟩]
  split <;> rfl
theorem litO_no {st : ST} {c : Nat} (hc : byt (pieceL st.which) st.k ≠ c) : litO st c = none := by
  unfold litO; rw [if_neg (by intro q; exact hc q.2)]
theorem step_lit {st : ST} {c : Nat} (h : st.wh = 3) : stepO st c = litO st c := by unfold stepO; rw [if_pos h]
theorem byt_drop {W : List UInt8} {k : Nat} {c : UInt8} {r : List UInt8} (h : W.drop k = c :: r) : k < W.length ∧ byt W k = c.toNat ∧ W.drop (k + 1) = r := by
  have hk : k < W.length := by
    apply Classical.byContradiction; intro q
    rw [List.drop_eq_nil_of_le (by omega)] at h; cases h
  rw [List.drop_eq_getElem_cons hk] at h
  injection h with h1 h2
  exact ⟨hk, by simp [byt, List.getD_eq_getElem?_getD, List.getElem?_eq_getElem hk, h1], h2⟩

/-- A word that is the rest of a piece, or begins it. -/
theorem sim_lit (L : List UInt8) (W : List UInt8) : ∀ (c : UInt8) (R : List UInt8) (st : ST) (i : Nat), st.wh = 3 → i ≤ L.length → (pieceL st.which).drop st.k = c :: (W ++ R) →
    Sim L st i (wd L (c :: W) (i, false)) (fun st' => st' = litTo st (W.length + 1)) := by
  induction W with
  | nil =>
    intro c R st i hw hi hd
    obtain ⟨h1, h2, h3⟩ := byt_drop hd
    by_cases hs : sk L c.toNat (i, false) = true
    · have hk := sk_lt hs
      have hst := pl_step (st := st) hk.1 (by rw [step_lit hw]; exact litO_yes h1 (h2.trans hk.2.2.symm))
      have e : wd L [c] (i, false) = (i + 1, false) := by simp [wd, hs]
      rw [e]; exact Sim.go hst rfl
    · have e : wd L [c] (i, false) = (i, true) := by simp [wd, hs]
      rw [e]
      refine Sim.fail ?_
      by_cases hl : i < L.length
      · exact pl_none hl (by rw [step_lit hw]; exact litO_no (by rw [h2]; intro q; apply hs; simp [sk, hl, q]))
      · exact pl_end (by omega) (by unfold wholeB; simp [hw])
  | cons d W ih =>
    intro c R st i hw hi hd
    obtain ⟨h1, h2, h3⟩ := byt_drop hd
    by_cases hs : sk L c.toNat (i, false) = true
    · have hk := sk_lt hs
      have hlen : st.k + 1 < (pieceL st.which).length := by
        have := congrArg List.length h3; simp at this; omega
      have ht : litTo st 1 = { st with k := st.k + 1 } := by unfold litTo; rw [if_pos hlen]
      have hst := pl_step (st := st) hk.1 (by rw [step_lit hw]; exact litO_yes h1 (h2.trans hk.2.2.symm))
      rw [ht] at hst
      have e : wd L (c :: d :: W) (i, false) = wd L (d :: W) (i + 1, false) := by conv => lhs; unfold wd; rw [if_pos hs]
      rw [e]
      have := ih d R { st with k := st.k + 1 } (i + 1) hw (by have := hk.1; simp at this; omega) h3
      rcases this with ⟨a, b⟩ | ⟨a, x, b, cc⟩
      · exact Or.inl ⟨a, hst.trans b⟩
      · refine Or.inr ⟨a, x, hst.trans b, ?_⟩
        rw [cc]
        unfold litTo
        simp only [List.length_cons]
        rw [show st.k + 1 + (W.length + 1) = st.k + (W.length + 1 + 1) from by omega]
        split <;> rfl
    · have e : wd L (c :: d :: W) (i, false) = (i, true) := by conv => lhs; unfold wd; rw [if_neg hs]
      rw [e]
      refine Sim.fail ?_
      by_cases hl : i < L.length
      · exact pl_none hl (by rw [step_lit hw]; exact litO_no (by rw [h2]; intro q; apply hs; simp [sk, hl, q]))
      · exact pl_end (by omega) (by unfold wholeB; simp [hw])

/-- A piece that begins at a station which tells it by its first byte. -/
theorem sim_begun {L : List UInt8} {st : ST} {i w : Nat} {c : UInt8} {W R : List UInt8} (hi : i ≤ L.length) (hp : pieceL w = c :: (W ++ R))
    (hst : i < L.length → stepO st (byt L i) = begunO st w (byt L i)) (hwh : i = L.length → wholeB st = false) :
    Sim L st i (wd L (c :: W) (i, false)) (fun st' => st' = litTo (goS st 3 w) (W.length + 1)) := by
  by_cases hl : i < L.length
  · refine Sim.from (st' := goS st 3 w) (pl_same hl ?_) (sim_lit L W c R (goS st 3 w) i rfl hi (by simpa [goS] using hp))
    rw [hst hl, step_lit rfl]; rfl
  · have e : wd L (c :: W) (i, false) = (i, true) := by simp [wd, sk, hl]
    rw [e]; exact Sim.fail (pl_end (by omega) (hwh (by omega)))

/-- A name: it stands at station 4 or 8. -/
theorem sim_name (L : List UInt8) (n : Nat) : ∀ (st : ST) (i : Nat), (st.wh = 4 ∨ st.wh = 8) → st.k + n = 6 → i ≤ L.length →
    pl L st i = pl L { st with k := st.k + lets L n i } (i + lets L n i) ∧ (st.k + lets L n i < 6 → letB (byt L (i + lets L n i)) = false) := by
  induction n with
  | zero => intro st i hw hk hi; exact ⟨by simp [lets], by simp [lets]; omega⟩
  | succ n ih =>
    intro st i hw hk hi
    cases hb : letB (byt L i) with
    | false =>
      have e : lets L (n + 1) i = 0 := by simp [lets, hb]
      rw [e]
      exact ⟨rfl, fun _ => hb⟩
    | true =>
      have hl : i < L.length := byt_in (by intro e; rw [e] at hb; simp [letB] at hb)
      have e : lets L (n + 1) i = lets L n (i + 1) + 1 := by simp [lets, hb]
      have hst : stepO st (byt L i) = some { st with k := st.k + 1 } := by
        unfold stepO
        rw [if_neg (by omega), if_pos hw]
        unfold nameO
        rw [if_pos ⟨hb, by omega⟩]
      obtain ⟨h1, h2⟩ := ih { st with k := st.k + 1 } (i + 1) hw (by simp; omega) hl
      rw [e]
      refine ⟨?_, ?_⟩
      · rw [pl_step hl hst, h1]
        simp only [show st.k + 1 + lets L n (i + 1) = st.k + (lets L n (i + 1) + 1) from by omega, show i + 1 + lets L n (i + 1) = i + (lets L n (i + 1) + 1) from by omega]
      · intro h3
        rw [show i + (lets L n (i + 1) + 1) = i + 1 + lets L n (i + 1) from by omega]
        exact h2 (by simp; omega)

/-- Behind a name: no letter more. -/
def NameEnd (L : List UInt8) (st : ST) (i : Nat) : Prop := 1 ≤ st.k ∧ st.k ≤ 6 ∧ (st.k < 6 → letB (byt L i) = false)
theorem sim_nm {L : List UInt8} {st : ST} {i : Nat} (hw : st.wh = 4 ∨ st.wh = 8) (hk : st.k = 0) (hi : i ≤ L.length) :
    Sim L st i (nmS L (i, false)) (fun st' => st' = { st with k := lets L 6 i } ∧ NameEnd L st' (i + lets L 6 i)) := by
  obtain ⟨h1, h2⟩ := sim_name L 6 st i hw (by omega) hi
  rw [hk] at h1 h2
  have hle := lets_goes L 6 i hi
  have hn : nmS L (i, false) = (i + lets L 6 i, lets L 6 i == 0) := by simp [nmS]
  have h6 : ∀ n i, lets L n i ≤ n := by
    intro n; induction n with
    | zero => intro i; simp [lets]
    | succ n ih =>
      intro i; unfold lets
      split
      · have := ih (i + 1); omega
      · omega
  have h6' := h6 6 i
  rw [hn]
  by_cases h0 : lets L 6 i = 0
  · rw [h0]
    refine Sim.fail ?_
    simp only [Nat.add_zero]
    rw [h0] at h2
    by_cases hl : i < L.length
    · refine pl_none hl ?_
      have hb : letB (byt L i) = false := by simpa using h2 (by omega)
      unfold stepO
      rw [if_neg (by omega), if_pos hw]
      unfold nameO
      rw [if_neg (by simp [hb]), if_pos hk]
    · refine pl_end (by omega) ?_
      unfold wholeB
      rcases hw with hw | hw <;> simp [hw, hk]
  · have e : (lets L 6 i == 0) = false := by simpa using h0
    rw [e]
    refine Sim.go (st' := { st with k := lets L 6 i }) (by simpa using h1) ⟨rfl, by simp; omega, h6', ?_⟩
    intro h; simpa using h2 (by simpa using h)

/-- Behind a number: no digit more. -/
def NumEnd (L : List UInt8) (st : ST) (i : Nat) : Prop := 1 ≤ st.k ∧ ¬ (digB (byt L i) = true ∧ st.k = 1 ∧ st.no = false)
theorem sim_num {L : List UInt8} {st : ST} {i : Nat} (hw : st.wh = 5) (hk : st.k = 0) (hi : i ≤ L.length) :
    Sim L st i (numS L (i, false)) (fun st' => (∃ k no, st' = { st with k := k, no := no }) ∧ NumEnd L st' (numS L (i, false)).1) := by
  have hp : ∀ j, pk L (j, false) = byt L j := by intro j; simp [pk]
  have stp : ∀ (s : ST) (c : Nat), s.wh = 5 → stepO s c = numberO s c := by
    intro s c h; unfold stepO; rw [if_neg (by omega), if_neg (by omega), if_pos h]
  cases hd : digB (byt L i) with
  | false =>
    have e : numS L (i, false) = (i, true) := by simp [numS, hp, hd]
    rw [e]
    refine Sim.fail ?_
    by_cases hl : i < L.length
    · refine pl_none hl ?_
      rw [stp st _ hw]; unfold numberO
      rw [if_neg (by simp [hd]), if_pos hk]
    · exact pl_end (by omega) (by unfold wholeB; simp [hw, hk])
  | true =>
    have hl : i < L.length := byt_in (by intro e; rw [e] at hd; simp [digB] at hd)
    have h1 : pl L st i = pl L { st with no := byt L i == 48, k := 1 } (i + 1) := by
      refine pl_step hl ?_
      rw [stp st _ hw]; unfold numberO
      rw [if_pos ⟨hd, Or.inl hk⟩, hk]
    by_cases h2 : byt L i = 48 ∨ digB (byt L (i + 1)) = false
    · have e : numS L (i, false) = (i + 1, false) := by
        unfold numS; rw [hp, if_pos hd, hp, if_pos (by rcases h2 with h2 | h2 <;> simp [h2])]
      rw [e]
      refine Sim.go h1 ⟨⟨1, byt L i == 48, rfl⟩, by simp, ?_⟩
      rintro ⟨q1, q2, q3⟩
      rcases h2 with h2 | h2
      · simp [h2] at q3
      · simp only at q1; rw [h2] at q1; cases q1
    · have h3 : byt L i ≠ 48 := fun q => h2 (Or.inl q)
      have h4 : digB (byt L (i + 1)) = true := by cases q : digB (byt L (i + 1)) with
        | true => rfl
        | false => exact absurd (Or.inr q) h2
      have hl2 : i + 1 < L.length := byt_in (by intro e; rw [e] at h4; simp [digB] at h4)
      have e : numS L (i, false) = (i + 2, false) := by
        unfold numS; rw [hp, if_pos hd, hp, if_neg (by simp [h3, h4])]
      rw [e]
      have h5 : pl L { st with no := byt L i == 48, k := 1 } (i + 1) = pl L { st with no := byt L (i + 1) == 48, k := 2 } (i + 2) := by
        refine pl_step hl2 ?_
        rw [stp { st with no := byt L i == 48, k := 1 } _ hw]; unfold numberO
        rw [if_pos ⟨h4, Or.inr ⟨rfl, by simp [h3]⟩⟩]
      exact Sim.go (h1.trans h5) ⟨⟨2, _, rfl⟩, by simp, by simp⟩

end Go.Proofs.Ytanknpmojblmcab
