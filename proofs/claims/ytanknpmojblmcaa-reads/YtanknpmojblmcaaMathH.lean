/-
  Plain mathematics: all heads of a text; that the document's answer and the program's agree, but for the plain form.
-/
import Derived.Test.YtanknpmojblmcaaMathG
import Derived.Test.YtanknpmojblmcaaLawW
set_option linter.unusedSimpArgs false
set_option linter.unusedVariables false
namespace Go.Proofs.Ytanknpmojblmcaa

theorem toNl_is {L : List UInt8} (d : Nat) : ∀ {i j : Nat}, j = i + d → j ≤ L.length → (∀ k, i ≤ k → k < j → byt L k ≠ 10) → (j = L.length ∨ byt L j = 10) → toNl L i = j := by
  induction d with
  | zero =>
    intro i j hj hl hn he
    have : i = j := by omega
    subst this
    by_cases q : i < L.length
    · have hb : byt L i = 10 := by
        rcases he with he | he
        · omega
        · exact he
      exact toNl_at q hb
    · exact toNl_end (by omega)
  | succ d ih =>
    intro i j hj hl hn he
    rw [toNl_step (by omega) (hn i (Nat.le_refl _) (by omega))]
    exact ih (by omega) hl (fun k h1 h2 => hn k (by omega) h2) he

theorem toNl_inner (L : List UInt8) (n : Nat) : ∀ i, L.length - i ≤ n → ∀ k, i ≤ k → k < toNl L i → byt L k ≠ 10 := by
  induction n with
  | zero => intro i hn k h1 h2; rw [toNl_end (by omega)] at h2; omega
  | succ n ih =>
    intro i hn k h1 h2
    by_cases hl : i < L.length
    · by_cases hb : byt L i = 10
      · rw [toNl_at hl hb] at h2; omega
      · by_cases e : k = i
        · subst e; exact hb
        · rw [toNl_step hl hb] at h2; exact ih (i + 1) (by omega) k (by omega) h2
    · rw [toNl_end (by omega)] at h2; omega

/-- One line, as the document's answer goes through it. -/
theorem rhds_line {L : List UInt8} {f a : Nat} {rs : List RV} (d : Nat) : ∀ (i m : Nat), i + d ≤ L.length → (∀ k, i ≤ k → k < i + d → byt L k ≠ 10) → (i + d = L.length ∨ byt L (i + d) = 10) →
    rhdsL L f (d + 1 + m) i a rs = rhdsL L f m (i + d + 1) (i + d + 1) (if a + 2 ≤ i + d ∧ seesB L a = true then rs ++ [rhd L f a (i + d)] else rs) := by
  induction d with
  | zero =>
    intro i m h1 h2 h3
    have hc : ¬ (i < L.length ∧ byt L i ≠ 10) := by
      rintro ⟨q1, q2⟩
      rcases h3 with h3 | h3
      · simp at h3; omega
      · exact q2 (by simpa using h3)
    rw [show 0 + 1 + m = m + 1 from by omega, rhdsL, if_neg hc]
    simp only [Nat.add_zero]
  | succ d ih =>
    intro i m h1 h2 h3
    rw [show d + 1 + 1 + m = (d + 1 + m) + 1 from by omega, rhdsL_in ⟨by omega, h2 i (Nat.le_refl _) (by omega)⟩]
    rw [ih (i + 1) m (by omega) (fun k q1 q2 => h2 k (by omega) (by omega)) (by rw [show i + 1 + d = i + (d + 1) from by omega]; exact h3)]
    simp only [show i + 1 + d = i + (d + 1) from by omega]

def SameL : List HV → List RV → Prop
  | [], [] => True
  | h :: r, x :: s => Same h x ∧ SameL r s
  | _, _ => False
theorem SameL.snoc : ∀ {hs : List HV} {rs : List RV} {h : HV} {x : RV}, SameL hs rs → Same h x → SameL (hs ++ [h]) (rs ++ [x])
  | [], [], _, _, _, q => ⟨q, trivial⟩
  | [], _ :: _, _, _, p, _ => p.elim
  | _ :: _, [], _, _, p, _ => p.elim
  | _ :: _, _ :: _, _, _, p, q => ⟨p.1, SameL.snoc p.2 q⟩
theorem SameL.len : ∀ {hs : List HV} {rs : List RV}, SameL hs rs → rs.length = hs.length
  | [], [], _ => rfl
  | [], _ :: _, p => p.elim
  | _ :: _, [], p => p.elim
  | _ :: _, _ :: _, p => by simp [SameL.len p.2]

def LineOK (L : List UInt8) (a i : Nat) : Prop := a + 3 ≤ i ∧ ∀ p, behO L a i kAfter = some p → PlainOK 700 (cut L p i)
/-- A line that begins where another began, or behind its end. -/
theorem hline_from {L : List UInt8} {a e i j : Nat} (H : HLine L a e) (hia : i ≤ a) (hj : toNl L i = j) (hi : i ≤ L.length) : (a = i ∧ e = j) ∨ (j < L.length ∧ j + 1 ≤ a) := by
  by_cases q : a = i
  · subst q
    left
    refine ⟨rfl, ?_⟩
    rw [← hj]
    exact (toNl_is (e - a) (by have := H.le; omega) H.en H.inner H.stop).symm
  · right
    have hs : byt L (a - 1) = 10 := by
      rcases H.start with h | h
      · omega
      · exact h
    have hal : a - 1 < L.length := byt_in (by rw [hs]; decide)
    have : j ≤ a - 1 := by
      apply Classical.byContradiction
      intro hc
      exact toNl_inner L L.length i (by omega) (a - 1) (by omega) (by omega) hs
    omega

theorem hds_same {L : List UInt8} (PL : PlainThm L) (n : Nat) : ∀ (i : Nat) (hs : List HV) (rs : List RV), i ≤ L.length → L.length - i < n → SameL hs rs → tells L (hdsL L n (i, false) hs) = none →
    SameL (hdsL L n (i, false) hs).1 (rhdsL L 700 (L.length + 1 - i) i i rs) ∧ ∀ a e, HLine L a e → i ≤ a → LineOK L a e := by
  induction n with
  | zero => intro i hs rs _ h; omega
  | succ n ih =>
    intro i hs rs hi hn hS ht
    cases hse : seesB L i with
    | true =>
      have hg := headH_goes L (i, false) hi
      have e : lineH L (i, false) hs = (hs ++ [(headH L (i, false)).1], (headH L (i, false)).2) := by simp [lineH, hse]
      generalize hh : headH L (i, false) = r at *
      obtain ⟨hv, j, f⟩ := r
      simp only at e hg
      cases hf : f with
      | true =>
        subst hf
        have e2 : hdsL L (n + 1) (i, false) hs = (hs ++ [hv], (j, true)) := by unfold hdsL; rw [e, if_neg (by simp [sk])]
        rw [e2] at ht; simp [tells] at ht
      | false =>
        subst hf
        have hend : j = L.length ∨ byt L j = 10 := by
          cases hk : sk L 10 (j, false) with
          | true => exact Or.inr (sk_ok hk).2
          | false =>
            have e2 : hdsL L (n + 1) (i, false) hs = (hs ++ [hv], (j, false)) := by unfold hdsL; rw [e, if_neg (by rw [hk]; decide)]
            rw [e2] at ht
            left
            apply Classical.byContradiction
            intro hc
            have : j < L.length := by have := hg.2; simp at this; omega
            simp [tells, this] at ht
        obtain ⟨q1, q2, q3, q4, q5⟩ := head_same PL hse hh hend
        have hnl : toNl L i = j := toNl_is (j - i) (by omega) q3 q1 hend
        have hrs := rhds_line (L := L) (f := 700) (a := i) (rs := rs) (j - i) i (L.length + 1 - (j + 1)) (by omega) (fun k h1 h2 => q1 k h1 (by omega)) (by rw [show i + (j - i) = j from by omega]; exact hend)
        rw [show j - i + 1 + (L.length + 1 - (j + 1)) = L.length + 1 - i from by omega, show i + (j - i) = j from by omega, if_pos ⟨by omega, hse⟩] at hrs
        rw [hrs]
        have hS' := hS.snoc q4
        cases hk : sk L 10 (j, false) with
        | true =>
          have hl : j < L.length := (sk_ok hk).1
          have e2 : hdsL L (n + 1) (i, false) hs = hdsL L n (j + 1, false) (hs ++ [hv]) := by
            conv => lhs; unfold hdsL
            rw [e, if_pos hk]
          rw [e2] at ht ⊢
          obtain ⟨a1, a2⟩ := ih (j + 1) (hs ++ [hv]) (rs ++ [rhd L 700 i j]) hl (by omega) hS' ht
          refine ⟨a1, ?_⟩
          intro a ee H hia
          rcases hline_from H hia hnl hi with ⟨rfl, rfl⟩ | ⟨_, q⟩
          · exact ⟨q2, q5⟩
          · exact a2 a ee H q
        | false =>
          have e2 : hdsL L (n + 1) (i, false) hs = (hs ++ [hv], (j, false)) := by unfold hdsL; rw [e, if_neg (by rw [hk]; decide)]
          have hjl : j = L.length := by
            rcases hend with h | h
            · exact h
            · by_cases hc : j < L.length
              · exact absurd h (sk_byt hk hc)
              · have := q3; omega
          rw [e2]
          refine ⟨?_, ?_⟩
          · rw [show L.length + 1 - (j + 1) = 0 from by omega]; exact hS'
          · intro a ee H hia
            rcases hline_from H hia hnl hi with ⟨rfl, rfl⟩ | ⟨q, _⟩
            · exact ⟨q2, q5⟩
            · omega
    | false =>
      have e : lineH L (i, false) hs = (hs, (toNl L i, false)) := by simp [lineH, hse]
      have hg := toNl_goes L i hi
      have hnl := toNl_nl L L.length i (by omega)
      have hin := toNl_inner L L.length i (by omega)
      generalize hj : toNl L i = j at *
      have hend : j = L.length ∨ byt L j = 10 := by
        by_cases q : j < L.length
        · exact Or.inr (hnl q)
        · exact Or.inl (by omega)
      have hrs := rhds_line (L := L) (f := 700) (a := i) (rs := rs) (j - i) i (L.length + 1 - (j + 1)) (by omega) (fun k h1 h2 => hin k h1 (by omega)) (by rw [show i + (j - i) = j from by omega]; exact hend)
      rw [show j - i + 1 + (L.length + 1 - (j + 1)) = L.length + 1 - i from by omega, show i + (j - i) = j from by omega, if_neg (by rw [hse]; simp)] at hrs
      rw [hrs]
      have noh : ∀ a ee, HLine L a ee → a = i → False := by
        intro a ee H q; subst q; have := H.sees; rw [hse] at this; cases this
      by_cases hl : j < L.length
      · have hk : sk L 10 (j, false) = true := by simp [sk, hl, hnl hl]
        have e2 : hdsL L (n + 1) (i, false) hs = hdsL L n (j + 1, false) hs := by
          conv => lhs; unfold hdsL
          rw [e, if_pos hk]
        rw [e2] at ht ⊢
        obtain ⟨a1, a2⟩ := ih (j + 1) hs rs hl (by omega) hS ht
        refine ⟨a1, ?_⟩
        intro a ee H hia
        rcases hline_from H hia hj hi with ⟨q, _⟩ | ⟨_, q⟩
        · exact (noh a ee H q).elim
        · exact a2 a ee H q
      · have e2 : hdsL L (n + 1) (i, false) hs = (hs, (j, false)) := by unfold hdsL; rw [e, if_neg (by simp [sk, hl])]
        rw [e2]
        refine ⟨?_, ?_⟩
        · rw [show L.length + 1 - (j + 1) = 0 from by omega]; exact hS
        · intro a ee H hia
          rcases hline_from H hia hj hi with ⟨q, _⟩ | ⟨q, _⟩
          · exact (noh a ee H q).elim
          · omega

theorem bey_same : ∀ {hs : List HV} {rs : List RV}, SameL hs rs → (∀ h ∈ hs, Small h) → limF rs = if (beyH hs).2 = true then some ((beyH hs).1 : Int) else none
  | [], [], _, _ => rfl
  | [], _ :: _, p, _ => p.elim
  | _ :: _, [], p, _ => p.elim
  | h :: r, x :: s, p, hb => by
    obtain ⟨q, p2⟩ := p
    have ih := bey_same p2 (fun y hy => hb y (List.mem_cons_of_mem _ hy))
    have hsm := hb h (List.mem_cons_self)
    have n1 := q.nodes; have n2 := q.time; have n3 := q.lo; have n4 := q.hi
    unfold limF beyH
    by_cases c1 : h.nodes < 1 ∨ h.nodes > 8
    · have e : limI x = (h.nodesAt : Int) := by rw [lim_n (by omega), q.nodesAt]
      rw [if_pos c1, e, if_pos (by omega)]; rfl
    · rw [if_neg c1]
      by_cases c2 : h.time < 1 ∨ h.time > 12
      · have e : limI x = (h.timeAt : Int) := by rw [lim_t (by omega) (by omega), q.timeAt]
        rw [if_pos c2, e, if_pos (by omega)]; rfl
      · rw [if_neg c2]
        by_cases c3 : h.arr = true ∧ (h.lo > h.hi ∨ h.hi - h.lo ≥ 6)
        · have e : limI x = (h.arrayAt : Int) := by rw [lim_a (by omega) (by omega) (q.arr.trans c3.1) (by omega), q.arrayAt c3.1]
          rw [if_pos c3, e, if_pos (by omega)]; rfl
        · have e : limI x = -1 := lim_o (by omega) (by omega) (fun ha => by
            have ha' : h.arr = true := q.arr.symm.trans ha
            have : ¬ (h.lo > h.hi ∨ h.hi - h.lo ≥ 6) := fun z => c3 ⟨ha', z⟩
            omega)
          rw [if_neg c3, e, if_neg (by omega)]; exact ih

theorem any_same : ∀ {hs : List HV} {rs : List RV}, SameL hs rs → ∀ (nm : List UInt8), rs.any (fun g => g.name == nm) = hs.any (fun g => g.name == nm)
  | [], [], _, _ => rfl
  | [], _ :: _, p, _ => p.elim
  | _ :: _, [], p, _ => p.elim
  | h :: r, x :: s, p, nm => by simp only [List.any_cons]; rw [any_same p.2 nm, p.1.name]
theorem twi_same : ∀ {hs : List HV} {rs : List RV} {hb : List HV} {rb : List RV}, SameL hs rs → SameL hb rb → twiR rb rs = if (twiH hb hs).2 = true then some ((twiH hb hs).1 : Int) else none
  | [], [], _, _, _, _ => rfl
  | [], _ :: _, _, _, p, _ => p.elim
  | _ :: _, [], _, _, p, _ => p.elim
  | h :: r, x :: s, hb, rb, p, pb => by
    have ih := twi_same p.2 (pb.snoc p.1)
    unfold twiR twiH
    rw [any_same pb, p.1.name]
    by_cases c : hb.any (fun g => g.name == h.name) = true
    · rw [if_pos c, if_pos c, p.1.nameAt]; rfl
    · rw [if_neg c, if_neg c]; exact ih
theorem jobs_same : ∀ {hs : List HV} {rs : List RV}, SameL hs rs → rs.map rjC = (hs.map jobOf).map jvC
  | [], [], _ => rfl
  | [], _ :: _, p => p.elim
  | _ :: _, [], p => p.elim
  | h :: r, x :: s, p => by
    simp only [List.map_cons]
    rw [jobs_same p.2]
    congr 1
    have q := p.1
    unfold rjC jvC jobOf
    rw [q.name, q.nodes, q.time, q.arr, q.lo, q.hi, q.after]
theorem small_same : ∀ {hs : List HV} {rs : List RV}, SameL hs rs → (∀ h ∈ hs, Small h) → ∀ x ∈ rs, RSmall x
  | [], [], _, _ => by intro x hx; cases hx
  | [], _ :: _, p, _ => p.elim
  | _ :: _, [], p, _ => p.elim
  | h :: r, x :: s, p, hb => by
    intro y hy
    rcases List.mem_cons.1 hy with rfl | hy
    · have hsm := hb h (List.mem_cons_self)
      have n3 := p.1.lo; have n4 := p.1.hi
      obtain ⟨s1, s2, s3, s4⟩ := hsm
      exact ⟨by omega, by omega, by omega, by omega⟩
    · exact small_same p.2 (fun y hy => hb y (List.mem_cons_of_mem _ hy)) y hy

theorem agree_of (hPL : ∀ L : List UInt8, L.length ≤ 600 → PlainThm L) (L : List UInt8) : Agree L 700 := by
  by_cases hbig : 600 < L.length
  · have e1 : readH L = ([], (1, 0)) := by unfold readH; rw [if_pos hbig]
    have e2 : refR L 700 = ([], (1, 0)) := by unfold refR; rw [if_pos hbig]
    refine ⟨fun h => by omega, by rw [e1, e2], by rw [e1, e2]; rfl, fun h => by rw [e1] at h; cases h⟩
  · have hp := place_is L
    have hS := hds_same (hPL L (by omega)) (L.length + 1) 0 [] [] (by omega) (by omega) trivial
    have hsm := hdsR_small L
    have hln := hdsR_len L
    cases hf : (hdsR L).2.2 with
    | true =>
      rw [hf, if_pos rfl] at hp
      have e1 : readH L = ([], (2, (hdsR L).2.1)) := by unfold readH; rw [if_neg (by omega), if_pos hf]
      have e2 : refR L 700 = ([], (2, ((hdsR L).2.1 : Int))) := by unfold refR; rw [if_neg (by omega), hp]
      refine ⟨fun _ h => (by rw [hp] at h; cases h), by rw [e1, e2], by rw [e1, e2], fun h => by rw [e1] at h; cases h⟩
    | false =>
      rw [hf, if_neg (by decide)] at hp
      have ht : tells L (hdsL L (L.length + 1) (0, false) []) = none := by
        unfold tells
        rw [if_neg]
        intro q
        have : (hdsR L).2.2 = true := q
        rw [hf] at this; cases this
      obtain ⟨s1, s2⟩ := hS ht
      have s1 : SameL (hdsR L).1 (rhds L 700) := s1
      have hok : HeadsOK L 700 := fun a i H => s2 a i H (Nat.zero_le _)
      have hb := bey_same s1 hsm
      have htw := twi_same (hb := []) (rb := []) s1 trivial
      have e2 : refR L 700 = refR2 (rhds L 700) := by unfold refR; rw [if_neg (by omega), hp]
      have okk : HeadsOK L 700 ∧ (∀ x ∈ rhds L 700, RSmall x) ∧ (rhds L 700).length ≤ 700 := ⟨hok, small_same s1 hsm, by rw [s1.len]; omega⟩
      cases hb2 : (beyH (hdsR L).1).2 with
      | true =>
        rw [hb2, if_pos rfl] at hb
        have e1 : readH L = ([], (3, (beyH (hdsR L).1).1)) := by unfold readH; rw [if_neg (by omega), hf, if_neg (by decide), if_pos hb2]
        have e3 : refR L 700 = ([], (3, ((beyH (hdsR L).1).1 : Int))) := by rw [e2]; unfold refR2; rw [hb]
        exact ⟨fun _ _ => okk, by rw [e1, e3], by rw [e1, e3], fun h => by rw [e1] at h; cases h⟩
      | false =>
        rw [hb2, if_neg (by decide)] at hb
        cases ht2 : (twiH [] (hdsR L).1).2 with
        | true =>
          rw [ht2, if_pos rfl] at htw
          have e1 : readH L = ([], (4, (twiH [] (hdsR L).1).1)) := by unfold readH; rw [if_neg (by omega), hf, if_neg (by decide), hb2, if_neg (by decide), if_pos ht2]
          have e3 : refR L 700 = ([], (4, ((twiH [] (hdsR L).1).1 : Int))) := by rw [e2]; unfold refR2; rw [hb, htw]
          exact ⟨fun _ _ => okk, by rw [e1, e3], by rw [e1, e3], fun h => by rw [e1] at h; cases h⟩
        | false =>
          rw [ht2, if_neg (by decide)] at htw
          have e1 : readH L = ((hdsR L).1, (0, 0)) := by unfold readH; rw [if_neg (by omega), hf, if_neg (by decide), hb2, if_neg (by decide), ht2, if_neg (by decide)]
          have e3 : refR L 700 = (rhds L 700, (0, 0)) := by rw [e2]; unfold refR2; rw [hb, htw]
          refine ⟨fun _ _ => okk, by rw [e1, e3], by rw [e1, e3]; rfl, fun _ => ?_⟩
          rw [e3]
          have : readJ L = (hdsR L).1.map jobOf := by unfold readJ; rw [e1]; rfl
          rw [this]
          exact jobs_same s1

end Go.Proofs.Ytanknpmojblmcaa
