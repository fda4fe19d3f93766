/-
  Plain mathematics: the place of an error: the reader of the program tells what the document's answer tells.
-/
import Derived.Test.YtanknpmojblmcabMathC
set_option linter.unusedSimpArgs false
set_option linter.unusedVariables false
namespace Go.Proofs.Ytanknpmojblmcab

theorem sees_hed1 {L : List UInt8} {i : Nat} (h : seesB L i = true) : hed1 L (i, false) = wd L [32] (i + 2, false) ∧ i + 2 ≤ L.length := by
  simp [seesB] at h
  have h1 : i < L.length := byt_in (by omega)
  have h2 : i + 1 < L.length := byt_in (by omega)
  refine ⟨?_, h2⟩
  have e1 : sk L 35 (i, false) = true := by simp [sk, h1, h.1]
  have e2 : sk L 74 (i + 1, false) = true := by simp [sk, h2, h.2]
  unfold hed1
  conv => lhs; unfold wd
  rw [if_pos (by simpa using e1)]
  conv => lhs; unfold wd
  rw [if_pos (by simpa using e2)]

theorem sim_headH {L : List UInt8} {i h : Nat} {st : ST} (hs : seesB L i = true) (hw : st.wh = 0) (hh : st.hd = h) :
    Sim L st i (headH L (i, false)).2 (fun st' => HE L (h + 1) st' (headH L (i, false)).2.1) := by
  obtain ⟨he1, hi2⟩ := sees_hed1 hs
  have hi : i ≤ L.length := by omega
  simp [seesB] at hs
  have hl0 : i < L.length := by omega
  have hl1 : i + 1 < L.length := by omega
  have p0 : pl L st i = pl L (goS st 1 0) (i + 1) := by
    refine pl_step hl0 ?_
    rw [hs.1]; unfold stepO; simp [hw]; unfold lineO; simp [hw]
  have p1 : pl L (goS st 1 0) (i + 1) = pl L (goS { goS st 1 0 with hd := h + 1, op := 0 } 3 0) (i + 1 + 1) := by
    refine pl_step hl1 ?_
    rw [hs.2]; unfold stepO; simp [goS]; unfold lineO; simp [goS, hh]
  refine Sim.from' (p0.trans p1) ?_
  have g1 := hed1_goes L (i, false) hi
  have g2 := hed2_goes L (i, false) hi
  have g3 := hed3_goes L (i, false) hi
  have g4 := hed4_goes L (i, false) hi
  have S1 : Sim L (goS { goS st 1 0 with hd := h + 1, op := 0 } 3 0) (i + 1 + 1) (hed1 L (i, false)) (fun st' => st'.wh = 4 ∧ st'.k = 0 ∧ st'.op = 0 ∧ st'.hd = h + 1) := by
    rw [he1]
    refine (sim_lit L [] 32 [] _ (i + 2) rfl (by omega) rfl).mono ?_
    rintro st1 hf rfl
    exact ⟨rfl, rfl, rfl, rfl⟩
  have S2 : Sim L (goS { goS st 1 0 with hd := h + 1, op := 0 } 3 0) (i + 1 + 1) (nmS L (hed1 L (i, false))) (fun st' => st'.wh = 4 ∧ st'.op = 0 ∧ st'.hd = h + 1 ∧ NameEnd L st' (nmS L (hed1 L (i, false))).1) := by
    refine S1.then' (nmS L) (nmS_fail L) (fun st' s => st'.wh = 4 ∧ st'.op = 0 ∧ st'.hd = h + 1 ∧ NameEnd L st' s.1) ?_
    rintro st1 hf ⟨q1, q2, q3, q4⟩
    refine (sim_nm (Or.inl q1) q2 g1.2).mono ?_
    rintro st2 hf2 ⟨rfl, hn⟩
    exact ⟨q1, q3, q4, by simpa [nmS] using hn⟩
  have S3 : Sim L (goS { goS st 1 0 with hd := h + 1, op := 0 } 3 0) (i + 1 + 1) (hed2 L (i, false)) (fun st' => st'.wh = 5 ∧ st'.which = 0 ∧ st'.op = 0 ∧ st'.hd = h + 1 ∧ st'.k = 0) := by
    refine S2.then (wd L [32, 110, 111, 100, 101, 115, 61]) (wd_fail L _) ?_
    rintro st1 hf ⟨q1, q2, q3, q4⟩
    have gn := (nmS_goes L _ g1.2).2
    refine (sim_begun (w := 1) (c := 32) (W := [110, 111, 100, 101, 115, 61]) (R := []) gn rfl (by
      intro _
      unfold stepO
      rw [if_neg (by omega), if_pos (Or.inl q1)]
      unfold nameO
      obtain ⟨a, b, c⟩ := q4
      rw [if_neg (by rintro ⟨x, y⟩; rw [c y] at x; cases x), if_neg (by omega), if_pos q1]) (by intro _; unfold wholeB; simp [q1])).mono ?_
    rintro st2 hf2 rfl
    exact ⟨rfl, rfl, q2, q3, rfl⟩
  have S4 : Sim L (goS { goS st 1 0 with hd := h + 1, op := 0 } 3 0) (i + 1 + 1) (numS L (hed2 L (i, false))) (fun st' => NumAt L 0 (h + 1) st' (numS L (hed2 L (i, false))).1) := by
    refine S3.then' (numS L) (numS_fail L) (fun st' s => NumAt L 0 (h + 1) st' s.1) ?_
    rintro st1 hf ⟨q1, q2, q3, q4, q5⟩
    exact sim_numAt q1 q2 q3 q4 q5 g2.2
  have S5 : Sim L (goS { goS st 1 0 with hd := h + 1, op := 0 } 3 0) (i + 1 + 1) (hed3 L (i, false)) (fun st' => st'.wh = 5 ∧ st'.which = 1 ∧ st'.op = 0 ∧ st'.hd = h + 1 ∧ st'.k = 0) := by
    refine S4.then (wd L [32, 116, 105, 109, 101, 61]) (wd_fail L _) ?_
    rintro st1 hf q
    have gn := (numS_goes L _ g2.2).2
    refine (sim_begun (w := 2) (c := 32) (W := [116, 105, 109, 101, 61]) (R := []) gn rfl (by intro _; rw [q.step]; simp) (by intro _; unfold wholeB; simp [q.wh, q.which])).mono ?_
    rintro st2 hf2 rfl
    exact ⟨rfl, rfl, q.op, q.hd, rfl⟩
  have S6 : Sim L (goS { goS st 1 0 with hd := h + 1, op := 0 } 3 0) (i + 1 + 1) (hed4 L (i, false)) (fun st' => NumAt L 1 (h + 1) st' (hed4 L (i, false)).1) := by
    refine S5.then' (numS L) (numS_fail L) (fun st' s => NumAt L 1 (h + 1) st' s.1) ?_
    rintro st1 hf ⟨q1, q2, q3, q4, q5⟩
    exact sim_numAt q1 q2 q3 q4 q5 g3.2
  refine S6.then' (fun s => (optH L (hedV L (i, false)) s).2) (optH_fail L _) (fun st' s => HE L (h + 1) st' s.1) ?_
  rintro st1 hf q
  exact sim_opt (by omega) g4.2 q

/-- A command: up to the end of its line. -/
theorem pl_other (L : List UInt8) (n : Nat) : ∀ (st : ST) (i : Nat), st.wh = 2 → i ≤ L.length → L.length - i ≤ n → ∃ st', pl L st i = pl L st' (toNl L i) ∧ st'.wh = 2 ∧ st'.hd = st.hd := by
  induction n with
  | zero => intro st i hw hi hn; exact ⟨st, by rw [toNl_end (by omega)], hw, rfl⟩
  | succ n ih =>
    intro st i hw hi hn
    by_cases hl : i < L.length
    · by_cases hb : byt L i = 10
      · exact ⟨st, by rw [toNl_at hl hb], hw, rfl⟩
      · have hst : stepO st (byt L i) = some (goS st 2 0) := by unfold stepO; simp [hw]; unfold lineO; simp [hb, hw]
        obtain ⟨st', h1, h2, h3⟩ := ih (goS st 2 0) (i + 1) rfl hl (by omega)
        exact ⟨st', by rw [pl_step hl hst, h1, toNl_step hl hb], h2, h3⟩
    · exact ⟨st, by rw [toNl_end (by omega)], hw, rfl⟩
theorem pl_command {L : List UInt8} {st : ST} {i : Nat} (hw : st.wh = 0) (hi : i ≤ L.length) (hs : seesB L i = false) : ∃ st', pl L st i = pl L st' (toNl L i) ∧ st'.wh ≤ 2 ∧ st'.hd = st.hd := by
  by_cases hl : i < L.length
  · by_cases hb : byt L i = 10
    · exact ⟨st, by rw [toNl_at hl hb], by omega, rfl⟩
    · by_cases h35 : byt L i = 35
      · have hst : stepO st (byt L i) = some (goS st 1 0) := by unfold stepO; simp [hw]; unfold lineO; simp [h35, hw]
        have hp := pl_step hl hst
        by_cases hl1 : i + 1 < L.length
        · by_cases hb1 : byt L (i + 1) = 10
          · exact ⟨goS st 1 0, by rw [hp, toNl_step hl hb, toNl_at hl1 hb1], by simp [goS], rfl⟩
          · have h74 : byt L (i + 1) ≠ 74 := by intro e; simp [seesB, h35, e] at hs
            have hst1 : stepO (goS st 1 0) (byt L (i + 1)) = some (goS (goS st 1 0) 2 0) := by unfold stepO; simp [goS]; unfold lineO; simp [goS, hb1, h74]
            obtain ⟨st', h1, h2, h3⟩ := pl_other L L.length (goS (goS st 1 0) 2 0) (i + 1 + 1) rfl (by omega) (by omega)
            exact ⟨st', by rw [hp, pl_step hl1 hst1, h1, toNl_step hl hb, toNl_step hl1 hb1], by omega, h3⟩
        · exact ⟨goS st 1 0, by rw [hp, toNl_step hl hb, toNl_end (by omega)], by simp [goS], rfl⟩
      · have hst : stepO st (byt L i) = some (goS st 2 0) := by unfold stepO; simp [hw]; unfold lineO; simp [hb, h35, hw]
        obtain ⟨st', h1, h2, h3⟩ := pl_other L L.length (goS st 2 0) (i + 1) rfl (by omega) (by omega)
        exact ⟨st', by rw [pl_step hl hst, h1, toNl_step hl hb], by omega, h3⟩
  · exact ⟨st, by rw [toNl_end (by omega)], by omega, rfl⟩

theorem toNl_nl (L : List UInt8) (n : Nat) : ∀ i, L.length - i ≤ n → toNl L i < L.length → byt L (toNl L i) = 10 := by
  induction n with
  | zero => intro i hn h; rw [toNl_end (by omega)] at h ⊢; omega
  | succ n ih =>
    intro i hn h
    by_cases hl : i < L.length
    · by_cases hb : byt L i = 10
      · rw [toNl_at hl hb]; exact hb
      · rw [toNl_step hl hb] at h ⊢; exact ih (i + 1) (by omega) h
    · rw [toNl_end (by omega)] at h; omega

def tells (L : List UInt8) (r : List HV × (Nat × Bool)) : Option Nat := if (r.2.2 || decide (r.2.1 < L.length) || r.1.isEmpty) = true then some r.2.1 else none

theorem sim_hdsL (L : List UInt8) (n : Nat) : ∀ (st : ST) (i : Nat) (hs : List HV), st.wh = 0 → st.hd = hs.length → i ≤ L.length → L.length - i < n → pl L st i = tells L (hdsL L n (i, false) hs) := by
  induction n with
  | zero => intro st i hs _ _ _ h; omega
  | succ n ih =>
    intro st i hs hw hh hi hn
    cases hse : seesB L i with
    | true =>
      have a := sim_headH (h := hs.length) hse hw hh
      have hg := headH_goes L (i, false) hi
      have e : lineH L (i, false) hs = (hs ++ [(headH L (i, false)).1], (headH L (i, false)).2) := by simp [lineH, hse]
      generalize hhs : hs ++ [(headH L (i, false)).1] = hs' at *
      have hl' : hs'.length = hs.length + 1 := by rw [← hhs]; simp
      have hne : hs'.isEmpty = false := by cases hs' with
        | nil => simp at hl'
        | cons _ _ => rfl
      generalize (headH L (i, false)).2 = s at *
      obtain ⟨j, f⟩ := s
      rcases a with ⟨x, y⟩ | ⟨x, st1, y, q1, q2, q3⟩
      · simp only at x y; subst x
        have e2 : hdsL L (n + 1) (i, false) hs = (hs', (j, true)) := by
          unfold hdsL; rw [e, if_neg (by simp [sk])]
        rw [e2, y]; simp [tells]
      · simp only at x y q3; subst x
        have hj : j ≤ L.length := hg.2
        have hij : i ≤ j := hg.1
        rw [y]
        cases hk : sk L 10 (j, false) with
        | true =>
          have hk2 := sk_lt hk
          have hl : j < L.length := hk2.1
          have hb : byt L j = 10 := hk2.2.2
          have e2 : hdsL L (n + 1) (i, false) hs = hdsL L n (j + 1, false) hs' := by
            conv => lhs; unfold hdsL
            rw [e, if_pos hk]
          rw [e2, pl_step hl ((q3 hl).1 hb)]
          exact ih (goS st1 0 0) (j + 1) hs' rfl (by show st1.hd = _; omega) hl (by omega)
        | false =>
          have e2 : hdsL L (n + 1) (i, false) hs = (hs', (j, false)) := by
            unfold hdsL; rw [e, if_neg (by rw [hk]; decide)]
          rw [e2]
          by_cases hl : j < L.length
          · rw [pl_none hl ((q3 hl).2 (sk_byt hk hl))]; simp [tells, hl]
          · rw [pl_whole (by omega) q2]; simp [tells, hne, hl]
    | false =>
      have e : lineH L (i, false) hs = (hs, (toNl L i, false)) := by simp [lineH, hse]
      obtain ⟨st1, y, q1, q2⟩ := pl_command hw hi hse
      have hg := toNl_goes L i hi
      have hnl := toNl_nl L L.length i (by omega)
      generalize toNl L i = j at *
      rw [y]
      by_cases hl : j < L.length
      · have hb := hnl hl
        have hk : sk L 10 (j, false) = true := by simp [sk, hl, hb]
        have e2 : hdsL L (n + 1) (i, false) hs = hdsL L n (j + 1, false) hs := by
          conv => lhs; unfold hdsL
          rw [e, if_pos hk]
        have hst : stepO st1 (byt L j) = some (goS st1 0 0) := by
          unfold stepO
          rw [if_neg (by omega), if_neg (by omega), if_neg (by omega), if_neg (by omega), if_neg (by omega), if_neg (by omega)]
          unfold lineO; rw [if_pos hb]
        rw [e2, pl_step hl hst]
        exact ih (goS st1 0 0) (j + 1) hs rfl (by show st1.hd = _; omega) hl (by omega)
      · have e2 : hdsL L (n + 1) (i, false) hs = (hs, (j, false)) := by
          unfold hdsL; rw [e, if_neg (by simp [sk, hl])]
        rw [e2]
        have hwb : wholeB st1 = !hs.isEmpty := by
          unfold wholeB
          cases hs with
          | nil => simp at hh; rw [if_pos (by omega)]; rfl
          | cons a r =>
            simp at hh
            rw [if_neg (by omega), if_pos (by omega)]; rfl
        cases hs with
        | nil => rw [pl_end (by omega) hwb]; simp [tells]
        | cons a r => rw [pl_whole (by omega) hwb]; simp [tells, hl]

/-- THE PLACE: the document's answer and the program's reader tell the same. -/
theorem place_is (L : List UInt8) : placeO st0 L 0 = if (hdsR L).2.2 = true then some (hdsR L).2.1 else none := by
  have := sim_hdsL L (L.length + 1) st0 0 [] rfl rfl (by omega) (by omega)
  exact this

end Go.Proofs.Ytanknpmojblmcab
