/-
  Plain mathematics: a byte that can stand in no head, put into a head: the place of the error is there; and so where the text ends ahead of the head's first number.
-/
import Derived.Test.YtanknpmojblmcaaGreatDoorMathU
import Derived.Test.YtanknpmojblmcaaGreatDoorKCutA
set_option linter.unusedSimpArgs false
set_option linter.unusedVariables false
namespace Go.Proofs.YtanknpmojblmcaaGreatDoor

/-- A text goes through the stations. -/
def runO (st : ST) : List UInt8 → Option ST
  | [] => some st
  | c :: r => match stepO st c.toNat with
    | none => none
    | some st' => runO st' r
theorem run_app (P R : List UInt8) : ∀ (st : ST), runO st (P ++ R) = match runO st P with
    | none => none
    | some st' => runO st' R := by
  induction P with
  | nil => intro st; rfl
  | cons c P ih =>
    intro st
    simp only [List.cons_append, runO]
    cases h : stepO st c.toNat with
    | none => rfl
    | some st' => exact ih st'
theorem place_app {P : List UInt8} (R : List UInt8) : ∀ {st st' : ST} (i : Nat), runO st P = some st' → placeO st (P ++ R) i = placeO st' R (i + P.length) := by
  induction P with
  | nil => intro st st' i h; cases h; rfl
  | cons c P ih =>
    intro st st' i h
    simp only [List.cons_append, placeO]
    unfold runO at h
    cases hs : stepO st c.toNat with
    | none => rw [hs] at h; cases h
    | some s1 =>
      rw [hs] at h
      show placeO s1 (P ++ R) (i + 1) = _
      rw [ih (i + 1) h, List.length_cons]
      rw [show i + 1 + P.length = i + (P.length + 1) by omega]
theorem run_of_place {P : List UInt8} (R : List UInt8) : ∀ {st : ST} (i : Nat), placeO st (P ++ R) i = none → ∃ st', runO st P = some st' := by
  induction P with
  | nil => intro st i h; exact ⟨st, rfl⟩
  | cons c P ih =>
    intro st i h
    have h : placeO st (c :: (P ++ R)) i = none := h
    unfold placeO at h
    unfold runO
    cases hs : stepO st c.toNat with
    | none => rw [hs] at h; cases h
    | some s1 => rw [hs] at h; exact ih (i + 1) h

theorem piece_in {w k c : Nat} (hk : k < (pieceL w).length) (h : byt (pieceL w) k = c) : ∃ x ∈ pieceL w, x.toNat = c := by
  refine ⟨(pieceL w)[k], List.getElem_mem hk, ?_⟩
  rw [← h]; unfold byt; simp [hk]
theorem piece_no (w : Nat) : ∀ x ∈ pieceL w, x.toNat ≠ 10 ∧ x.toNat ≠ 33 := by
  unfold pieceL
  split <;> decide
theorem lit_no {st : ST} {c : Nat} (h : c = 10 ∨ c = 33) : litO st c = none := by
  unfold litO
  rw [if_neg]
  rintro ⟨h1, h2⟩
  obtain ⟨x, hx, e⟩ := piece_in h1 h2
  have := piece_no st.which x hx
  omega
theorem begun_non {st : ST} {w c : Nat} (h : c = 10 ∨ c = 33) : begunO st w c = none := lit_no h

/-- The station is within a head. -/
def InH (st : ST) : Prop := 3 ≤ st.wh ∧ st.wh ≤ 9
theorem litN_in (w : Nat) : 4 ≤ (litN w).1 ∧ (litN w).1 ≤ 9 := by unfold litN; split <;> simp
theorem lit_in {st st' : ST} {c : Nat} (hw : st.wh = 3) (e : litO st c = some st') : InH st' := by
  unfold litO at e
  have hn := litN_in st.which
  split at e
  · split at e
    · cases e; show 3 ≤ st.wh ∧ st.wh ≤ 9; omega
    · cases e; show 3 ≤ (litN st.which).1 ∧ (litN st.which).1 ≤ 9; omega
  · cases e
theorem begun_in {st st' : ST} {w c : Nat} (e : begunO st w c = some st') : InH st' := lit_in (st := goS st 3 w) rfl e
theorem behind_in {st st' : ST} {c : Nat} (hc : c ≠ 10) (e : behindO st c = some st') : InH st' := by
  unfold behindO at e
  split at e
  · cases e; exact ⟨by show 3 ≤ 7; omega, by show 7 ≤ 9; omega⟩
  split at e
  · cases e; exact ⟨by show 3 ≤ 9; omega, by show 9 ≤ 9; omega⟩
  split at e
  · rename_i q; exact absurd q.1 hc
  · cases e
theorem step_in {st st' : ST} {c : Nat} (h : InH st) (hc : c ≠ 10) (e : stepO st c = some st') : InH st' := by
  unfold stepO at e
  split at e
  · rename_i q; exact lit_in q e
  split at e
  · unfold nameO at e
    split at e
    · cases e; exact h
    split at e
    · cases e
    split at e
    · exact begun_in e
    split at e
    · cases e; exact ⟨by show 3 ≤ 5; omega, by show 5 ≤ 9; omega⟩
    · exact behind_in hc e
  split at e
  · unfold numberO at e
    split at e
    · cases e; exact h
    split at e
    · cases e
    split at e
    · exact begun_in e
    split at e
    · exact begun_in e
    split at e
    · exact begun_in e
    split at e
    · exact begun_in e
    · exact begun_in e
  split at e
  · unfold optionO at e
    split at e
    · exact begun_in e
    · exact begun_in e
  split at e
  · unfold factorO at e
    split at e
    · split at e
      · cases e; exact h
      · cases e
    split at e
    · exact begun_in e
    split at e
    · exact begun_in e
    split at e
    · exact begun_in e
    split at e
    · exact begun_in e
    · cases e
  split at e
  · exact behind_in hc e
  · obtain ⟨h1, h2⟩ := h; omega
theorem step_nl {st st' : ST} (e : stepO st 10 = some st') : st'.wh = 0 := by
  unfold stepO at e
  split at e
  · rw [lit_no (Or.inl rfl)] at e; cases e
  split at e
  · unfold nameO at e
    split at e
    · rename_i q; exact absurd q.1 (by decide)
    split at e
    · cases e
    split at e
    · rw [begun_non (Or.inl rfl)] at e; cases e
    split at e
    · rename_i q; exact absurd q (by decide)
    · unfold behindO at e
      split at e
      · rename_i q; exact absurd q (by decide)
      split at e
      · rename_i q; exact absurd q.1 (by decide)
      split at e
      · cases e; rfl
      · cases e
  split at e
  · unfold numberO at e
    split at e
    · rename_i q; exact absurd q.1 (by decide)
    split at e
    · cases e
    split at e
    · rw [begun_non (Or.inl rfl)] at e; cases e
    split at e
    · rw [begun_non (Or.inl rfl)] at e; cases e
    split at e
    · rw [begun_non (Or.inl rfl)] at e; cases e
    rw [if_pos rfl] at e
    cases e; rfl
  split at e
  · unfold optionO at e
    split at e
    · rename_i q; exact absurd q (by decide)
    · rw [begun_non (Or.inl rfl)] at e; cases e
  split at e
  · unfold factorO at e
    split at e
    · rename_i q; exact absurd q (by decide)
    split at e
    · rename_i q; exact absurd q (by decide)
    split at e
    · rename_i q; exact absurd q (by decide)
    split at e
    · rename_i q; exact absurd q (by decide)
    split at e
    · rename_i q; exact absurd q (by decide)
    · cases e
  split at e
  · unfold behindO at e
    split at e
    · rename_i q; exact absurd q (by decide)
    split at e
    · rename_i q; exact absurd q.1 (by decide)
    split at e
    · cases e; rfl
    · cases e
  · unfold lineO at e
    rw [if_pos rfl] at e
    cases e; rfl
theorem step_bang {st : ST} (h : InH st) : stepO st 33 = none := by
  unfold stepO
  split
  · exact lit_no (Or.inr rfl)
  have hb : behindO st 33 = none := by
    unfold behindO
    rw [if_neg (by decide), if_neg (by intro q; exact absurd q.1 (by decide)), if_neg (by intro q; exact absurd q.1 (by decide))]
  split
  · unfold nameO
    rw [if_neg (by intro q; exact absurd q.1 (by decide))]
    split
    · rfl
    split
    · exact begun_non (Or.inr rfl)
    rw [if_neg (by decide)]
    exact hb
  split
  · unfold numberO
    rw [if_neg (by intro q; exact absurd q.1 (by decide))]
    split
    · rfl
    split
    · exact begun_non (Or.inr rfl)
    split
    · exact begun_non (Or.inr rfl)
    split
    · exact begun_non (Or.inr rfl)
    rw [if_neg (by decide)]
    split
    · exact begun_non (Or.inr rfl)
    · exact begun_non (Or.inr rfl)
  split
  · unfold optionO
    rw [if_neg (by decide)]
    exact begun_non (Or.inr rfl)
  split
  · unfold factorO
    rw [if_neg (by decide), if_neg (by decide), if_neg (by decide), if_neg (by decide), if_neg (by decide)]
  split
  · exact hb
  · obtain ⟨h1, h2⟩ := h; omega

theorem run_in {P : List UInt8} : ∀ {st st' : ST}, InH st → NoNl P → runO st P = some st' → InH st' := by
  induction P with
  | nil => intro st st' h _ e; cases e; exact h
  | cons c P ih =>
    intro st st' h hn e
    unfold runO at e
    cases hs : stepO st c.toNat with
    | none => rw [hs] at e; cases e
    | some s1 =>
      rw [hs] at e
      refine ih (step_in h ?_ hs) (fun x hx => hn x (by simp [hx])) e
      intro q
      exact hn c (by simp) (UInt8.toNat_inj.1 q)

/-- The stations of a head ahead of its first number, behind n bytes. -/
def Early (n : Nat) (st : ST) : Prop :=
  (st.wh = 3 ∧ st.which = 0 ∧ st.k = 0 ∧ n = 0) ∨ (st.wh = 4 ∧ 1 ≤ n ∧ st.k + 1 ≤ n) ∨ (st.wh = 3 ∧ st.which = 1 ∧ st.k < 7 ∧ st.k + 2 ≤ n) ∨ (st.wh = 5 ∧ st.which = 0 ∧ st.k = 0 ∧ 9 ≤ n)
theorem Early.not_whole {n : Nat} {st : ST} (h : Early n st) : wholeB st = false := by
  unfold wholeB
  split
  · rfl
  rcases h with h | h | h | h
  · rw [if_neg (by omega), if_neg (by omega), if_neg (by omega), if_neg (by omega)]
  · rw [if_neg (by omega), if_neg (by omega), if_neg (by omega), if_neg (by omega)]
  · rw [if_neg (by omega), if_neg (by omega), if_neg (by omega), if_neg (by omega)]
  · rw [if_neg (by omega), if_pos h.1, h.2.2.1]; rfl
theorem Early.step {n : Nat} {st st' : ST} {c : Nat} (h : Early n st) (hn : n < 9) (e : stepO st c = some st') : Early (n + 1) st' := by
  unfold stepO at e
  rcases h with h | h | h | h
  · rw [if_pos h.1] at e
    unfold litO at e
    rw [h.2.1] at e
    split at e
    · rw [if_neg (by rw [h.2.2.1]; decide)] at e
      cases e
      exact Or.inr (Or.inl ⟨rfl, by omega, by show 0 + 1 ≤ n + 1; omega⟩)
    · cases e
  · rw [if_neg (by omega), if_pos (Or.inl h.1)] at e
    unfold nameO at e
    split at e
    · cases e; exact Or.inr (Or.inl ⟨h.1, by omega, by show st.k + 1 + 1 ≤ n + 1; omega⟩)
    split at e
    · cases e
    rename_i hk0
    rw [if_pos h.1] at e
    unfold begunO litO at e
    split at e
    · rw [if_pos (by show 0 + 1 < (pieceL 1).length; decide)] at e
      cases e
      refine Or.inr (Or.inr (Or.inl ⟨rfl, rfl, by show 0 + 1 < 7; omega, ?_⟩))
      show 0 + 1 + 2 ≤ n + 1
      omega
    · cases e
  · rw [if_pos h.1] at e
    unfold litO at e
    rw [h.2.1] at e
    split at e
    · split at e
      · rename_i hlt
        have hlt : st.k + 1 < 7 := hlt
        cases e
        exact Or.inr (Or.inr (Or.inl ⟨h.1, rfl, hlt, by show st.k + 1 + 2 ≤ n + 1; omega⟩))
      · rename_i hlt
        have hlt : ¬ st.k + 1 < 7 := hlt
        cases e
        exact Or.inr (Or.inr (Or.inr ⟨rfl, rfl, rfl, by omega⟩))
    · cases e
  · omega
theorem Early.run {P : List UInt8} : ∀ {n : Nat} {st st' : ST}, Early n st → n + P.length ≤ 9 → runO st P = some st' → wholeB st' = false := by
  induction P with
  | nil => intro n st st' h _ e; cases e; exact h.not_whole
  | cons c P ih =>
    intro n st st' h hn e
    unfold runO at e
    rw [List.length_cons] at hn
    cases hs : stepO st c.toNat with
    | none => rw [hs] at e; cases e
    | some s1 =>
      rw [hs] at e
      exact ih (h.step (by omega) hs) (by omega) e

/-- A text of a batch, cut within a head that stands behind A. -/
theorem cut_list {A B C : List UInt8} (h : placeO st0 (A ++ (35 :: 74 :: (B ++ C))) 0 = none) (hA : A = [] ∨ ∃ A', A = A' ++ [10]) (hB : NoNl B) :
    (∀ R, placeO st0 (A ++ (35 :: 74 :: B) ++ 33 :: R) 0 = some (A.length + 2 + B.length)) ∧ (B.length ≤ 9 → placeO st0 (A ++ (35 :: 74 :: B)) 0 = some (A.length + 2 + B.length)) := by
  have e0 : A ++ (35 :: 74 :: (B ++ C)) = (A ++ (35 :: 74 :: B)) ++ C := by simp
  rw [e0] at h
  obtain ⟨s3, h3⟩ := run_of_place C 0 h
  have h3' := h3
  rw [run_app] at h3
  cases hr : runO st0 A with
  | none => rw [hr] at h3; cases h3
  | some s0 =>
    rw [hr] at h3
    have h3 : runO s0 (35 :: 74 :: B) = some s3 := h3
    have hw0 : s0.wh = 0 := by
      rcases hA with rfl | ⟨A', rfl⟩
      · cases hr; rfl
      · rw [run_app] at hr
        cases hq : runO st0 A' with
        | none => rw [hq] at hr; cases hr
        | some s => 
          rw [hq] at hr
          have hr : runO s [10] = some s0 := hr
          unfold runO at hr
          cases hz : stepO s (10 : UInt8).toNat with
          | none => rw [hz] at hr; cases hr
          | some z => rw [hz] at hr; cases hr; exact step_nl hz
    have e1 : stepO s0 35 = some (goS s0 1 0) := by
      unfold stepO
      rw [if_neg (by omega), if_neg (by omega), if_neg (by omega), if_neg (by omega), if_neg (by omega), if_neg (by omega)]
      unfold lineO
      rw [if_neg (by decide), if_pos ⟨hw0, rfl⟩]
    obtain ⟨s2, hs2, hs2w, hs2i, hs2k⟩ : ∃ s2, stepO (goS s0 1 0) 74 = some s2 ∧ s2.wh = 3 ∧ s2.which = 0 ∧ s2.k = 0 := by
      refine ⟨goS { goS s0 1 0 with hd := (goS s0 1 0).hd + 1, op := 0 } 3 0, ?_, rfl, rfl, rfl⟩
      unfold stepO
      rw [if_neg (by show ¬ 1 = 3; decide), if_neg (by show ¬ (1 = 4 ∨ 1 = 8); decide), if_neg (by show ¬ 1 = 5; decide), if_neg (by show ¬ 1 = 6; decide), if_neg (by show ¬ 1 = 7; decide), if_neg (by show ¬ 1 = 9; decide)]
      unfold lineO
      rw [if_neg (by decide), if_neg (by intro q; exact absurd q.2 (by decide)), if_pos ⟨rfl, rfl⟩]
    have h4 : runO s2 B = some s3 := by
      unfold runO at h3
      rw [show (35 : UInt8).toNat = 35 from rfl, e1] at h3
      simp only at h3
      unfold runO at h3
      rw [show (74 : UInt8).toNat = 74 from rfl, hs2] at h3
      exact h3
    have hin : InH s3 := run_in ⟨by omega, by omega⟩ hB h4
    have hl : (A ++ (35 :: 74 :: B)).length = A.length + 2 + B.length := by simp; omega
    constructor
    · intro R
      rw [place_app _ 0 h3', hl]
      unfold placeO
      rw [show (33 : UInt8).toNat = 33 from rfl, step_bang hin]
      simp
    · intro hb
      have e := place_app (P := A ++ (35 :: 74 :: B)) [] 0 h3'
      rw [List.append_nil] at e
      rw [e, hl]
      unfold placeO
      rw [Early.run (n := 0) (Or.inl ⟨hs2w, hs2i, hs2k, rfl⟩) (by omega) h4]
      simp

/-- The lines of a text, by their beginnings. -/
structure Lined (S : List UInt8) : Prop where
  any : ∀ a, a ≤ S.length → (a = 0 ∨ (0 < a ∧ byt S (a - 1) = 10)) → a < S.length ∧ (byt S a = 35 → byt S (a + 1) = 74)
  last : ∀ a, a ≤ S.length → (a = 0 ∨ (0 < a ∧ byt S (a - 1) = 10)) → (∀ k, a ≤ k → k < S.length → byt S k ≠ 10) → byt S a = 35

theorem byt_left {A B : List UInt8} {k : Nat} (h : k < A.length) : byt (A ++ B) k = byt A k := by
  unfold byt; simp [List.getD_eq_getElem?_getD, List.getElem?_append_left h]
theorem byt_right {A B : List UInt8} {k : Nat} (h : A.length ≤ k) : byt (A ++ B) k = byt B (k - A.length) := by
  unfold byt; simp [List.getD_eq_getElem?_getD, List.getElem?_append_right h]
theorem byt_noNl {A : List UInt8} (h : NoNl A) (k : Nat) : byt A k ≠ 10 := by
  by_cases hk : k < A.length
  · have e : byt A k = A[k].toNat := by unfold byt; simp [hk]
    rw [e]
    intro q
    exact h A[k] (List.getElem_mem hk) (UInt8.toNat_inj.1 q)
  · rw [byt_out (by omega)]; decide
theorem ln_pos {t : List UInt8} (h : LnOK t) : 0 < t.length := by
  rcases h.2 with ⟨u, rfl⟩ | ⟨u, rfl⟩ <;> simp
theorem ln_two {t B : List UInt8} (h : LnOK t) (e : byt (t ++ B) 0 = 35) : byt (t ++ B) 1 = 74 := by
  rcases h.2 with ⟨u, rfl⟩ | ⟨u, rfl⟩
  · exact absurd e (by show ¬ (114 : UInt8).toNat = 35; decide)
  · rfl
theorem lined_of : ∀ (ls : List (List UInt8)), (∀ t ∈ ls, LnOK t) → (∃ r u, ls = r ++ [35 :: 74 :: u]) → Lined (jnl 10 ls)
  | [], _, h => by
    obtain ⟨r, u, e⟩ := h
    have := congrArg List.length e
    simp at this
  | [t], h, hl => by
    have ht := h t (by simp)
    have hp := ln_pos ht
    have e : jnl 10 [t] = t ++ [] := by simp [jnl, ptl]
    rw [e]
    have hn : ∀ a, (a = 0 ∨ (0 < a ∧ byt (t ++ []) (a - 1) = 10)) → a = 0 := by
      intro a ha
      rcases ha with ha | ⟨_, ha⟩
      · exact ha
      · rw [List.append_nil] at ha; exact absurd ha (byt_noNl ht.1 _)
    constructor
    · intro a _ ha
      rw [hn a ha]
      exact ⟨by simpa using hp, ln_two ht⟩
    · intro a _ ha _
      rw [hn a ha]
      obtain ⟨r, u, hq⟩ := hl
      have hr : r = [] := by
        have := congrArg List.length hq
        simp at this
        exact this
      rw [hr] at hq
      simp at hq
      rw [hq]
      rfl
  | t :: y :: z, h, hl => by
    have ht := h t (by simp)
    have hp := ln_pos ht
    have ih := lined_of (y :: z) (fun x hx => h x (by simp at hx ⊢; right; exact hx)) (by
      obtain ⟨r, u, hq⟩ := hl
      cases r with
      | nil => simp at hq
      | cons x r => simp at hq; exact ⟨r, u, by simpa using hq.2⟩)
    have e : jnl 10 (t :: y :: z) = (t ++ [10]) ++ jnl 10 (y :: z) := by simp [jnl, ptl]
    rw [e]
    generalize jnl 10 (y :: z) = S' at *
    have hlen : (t ++ [10]).length = t.length + 1 := by simp
    have key : ∀ a, (a = 0 ∨ (0 < a ∧ byt ((t ++ [10]) ++ S') (a - 1) = 10)) → a = 0 ∨ (t.length + 1 ≤ a ∧ (a - (t.length + 1) = 0 ∨ (0 < a - (t.length + 1) ∧ byt S' (a - (t.length + 1) - 1) = 10))) := by
      intro a ha
      rcases ha with ha | ⟨h0, ha⟩
      · exact Or.inl ha
      · right
        by_cases h1 : a - 1 < t.length
        · rw [byt_left (by omega), byt_left h1] at ha
          exact absurd ha (byt_noNl ht.1 _)
        · refine ⟨by omega, ?_⟩
          by_cases h2 : a = t.length + 1
          · left; omega
          · right
            refine ⟨by omega, ?_⟩
            rw [byt_right (by omega), hlen] at ha
            rw [← ha]
            congr 1
            omega
    constructor
    · intro a hal ha
      rcases key a ha with rfl | ⟨h1, h2⟩
      · refine ⟨by simp; omega, ?_⟩
        rw [List.append_assoc]
        exact ln_two ht
      · have q := ih.any (a - (t.length + 1)) (by simp at hal; omega) h2
        refine ⟨by simp; omega, ?_⟩
        rw [byt_right (by omega), byt_right (by omega), hlen]
        rw [show a + 1 - (t.length + 1) = a - (t.length + 1) + 1 by omega]
        exact q.2
    · intro a hal ha hno
      rcases key a ha with rfl | ⟨h1, h2⟩
      · exfalso
        refine hno t.length (by omega) (by simp) ?_
        rw [byt_left (by omega), byt_right (Nat.le_refl _)]
        simp [byt]
      · rw [byt_right (by omega), hlen]
        refine ih.last (a - (t.length + 1)) (by simp at hal; omega) h2 ?_
        intro k hk1 hk2
        have := hno (k + (t.length + 1)) (by omega) (by simp; omega)
        rw [byt_right (by omega), hlen] at this
        simpa using this

/-- What Read answers there. -/
def CutOK (S : List UInt8) (a p : Nat) : Prop :=
  a ≤ p ∧ p ≤ S.length ∧ readH (S.take p ++ 33 :: S.drop p) = ([], (2, p)) ∧ (p ≤ a + 11 → readH (S.take p) = ([], (2, p)))

theorem cut_ok {S : List UInt8} {a p : Nat} (hr : (readH S).2 = (0, 0)) (hl : S.length ≤ 390) (ha : a = 0 ∨ (0 < a ∧ byt S (a - 1) = 10)) (h1 : byt S a = 35) (h2 : byt S (a + 1) = 74) (hp : a + 2 ≤ p) (hp2 : p ≤ S.length) (hno : ∀ k, a ≤ k → k < p → byt S k ≠ 10) : CutOK S a p := by
  have hh : (hdsR S).2.2 = false := by
    cases e : (hdsR S).2.2 with
    | false => rfl
    | true =>
      unfold readH at hr
      rw [if_neg (by omega), e, if_pos rfl] at hr
      simp at hr
  have h0 : placeO st0 S 0 = none := by rw [place_is, hh]; rfl
  have g0 : a < S.length := by omega
  have g1 : a + 1 < S.length := by omega
  have e1 : S[a] = 35 := by
    have : byt S a = S[a].toNat := by unfold byt; simp [g0]
    rw [this] at h1
    exact UInt8.toNat_inj.1 h1
  have e2 : S[a + 1] = 74 := by
    have : byt S (a + 1) = S[a + 1].toNat := by unfold byt; simp [g1]
    rw [this] at h2
    exact UInt8.toNat_inj.1 h2
  have eS : S = S.take a ++ (35 :: 74 :: ((S.drop (a + 2)).take (p - (a + 2)) ++ S.drop p)) := by
    have q1 : S = S.take a ++ S.drop a := (List.take_append_drop a S).symm
    have q2 : S.drop a = S[a] :: S[a + 1] :: S.drop (a + 2) := by
      rw [List.drop_eq_getElem_cons g0, List.drop_eq_getElem_cons g1]
    have q3 : S.drop (a + 2) = (S.drop (a + 2)).take (p - (a + 2)) ++ S.drop p := by
      have := (List.take_append_drop (p - (a + 2)) (S.drop (a + 2))).symm
      rw [List.drop_drop] at this
      rw [show a + 2 + (p - (a + 2)) = p by omega] at this
      exact this
    rw [e1, e2, q3] at q2
    rw [q2] at q1
    exact q1
  have eT : S.take p = S.take a ++ (35 :: 74 :: (S.drop (a + 2)).take (p - (a + 2))) := by
    have q := congrArg (List.take p) eS
    have ln : (S.take a ++ (35 :: 74 :: (S.drop (a + 2)).take (p - (a + 2)))).length = p := by simp; omega
    rw [show S.take a ++ (35 :: 74 :: ((S.drop (a + 2)).take (p - (a + 2)) ++ S.drop p)) = (S.take a ++ (35 :: 74 :: (S.drop (a + 2)).take (p - (a + 2)))) ++ S.drop p by simp] at q
    rw [List.take_left' ln] at q
    exact q
  have hA : S.take a = [] ∨ ∃ A', S.take a = A' ++ [10] := by
    rcases ha with rfl | ⟨q1, q2⟩
    · left; simp
    · right
      refine ⟨S.take (a - 1), ?_⟩
      have g : a - 1 < S.length := by omega
      have : byt S (a - 1) = S[a - 1].toNat := by unfold byt; simp [g]
      rw [this] at q2
      have e3 : S[a - 1] = 10 := UInt8.toNat_inj.1 q2
      have := List.take_succ_eq_append_getElem g
      rw [e3] at this
      rw [show a - 1 + 1 = a by omega] at this
      exact this
  have hB : NoNl ((S.drop (a + 2)).take (p - (a + 2))) := by
    intro c hc
    obtain ⟨k, hk, rfl⟩ := List.mem_iff_getElem.1 hc
    have hk' : k < p - (a + 2) := by simp at hk; omega
    have g : a + 2 + k < S.length := by omega
    have := hno (a + 2 + k) (by omega) (by omega)
    have e : byt S (a + 2 + k) = S[a + 2 + k].toNat := by unfold byt; simp [g]
    rw [e] at this
    simp
    intro q
    rw [q] at this
    exact this rfl
  rw [eS] at h0
  obtain ⟨c1, c2⟩ := cut_list h0 hA hB
  have hlp : (S.take a).length + 2 + ((S.drop (a + 2)).take (p - (a + 2))).length = p := by simp; omega
  rw [hlp, ← eT] at c1 c2
  have c1 := c1 (S.drop p)
  have fin : ∀ L : List UInt8, L.length ≤ 600 → placeO st0 L 0 = some p → readH L = ([], (2, p)) := by
    intro L hL hq
    rw [place_is] at hq
    unfold readH
    rw [if_neg (by omega)]
    split at hq
    · rename_i hf
      simp at hq
      rw [if_pos hf, hq]
    · cases hq
  refine ⟨by omega, hp2, fin _ (by simp; omega) c1, fun h => fin _ (by simp; omega) (c2 (by simp; omega))⟩

end Go.Proofs.YtanknpmojblmcaaGreatDoor
