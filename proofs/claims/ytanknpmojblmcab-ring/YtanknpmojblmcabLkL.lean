/-
  Package link: what ways tells; a ring.
-/
import Derived.Test.YtanknpmojblmcabLkK
set_option linter.unusedSimpArgs false
set_option linter.unusedVariables false
namespace Go.Proofs.Ytanknpmojblmcab

theorem notFr_neg (f : List Bool) : ∀ (l : List Nat), notFr f l < 0 ↔ ∀ k ∈ l, f.getD k false = true := by
  intro l
  induction l with
  | nil => simp [notFr]
  | cons x r ih =>
    unfold notFr
    cases hx : f.getD x false with
    | true =>
      rw [if_pos rfl, ih]
      constructor
      · intro h k hk
        rcases List.mem_cons.mp hk with e | e
        · rw [e]; exact hx
        · exact h k e
      · intro h k hk
        exact h k (List.mem_cons.mpr (Or.inr hk))
    | false =>
      rw [if_neg (by decide)]
      constructor
      · intro h; omega
      · intro h
        have := h x (by simp)
        rw [hx] at this
        exact absurd this (by decide)
theorem notFr_pos (f : List Bool) : ∀ (l : List Nat), 0 ≤ notFr f l → ∃ k ∈ l, notFr f l = (k : Int) ∧ f.getD k false = false := by
  intro l
  induction l with
  | nil => intro h; simp [notFr] at h
  | cons x r ih =>
    intro h
    unfold notFr at h ⊢
    cases hx : f.getD x false with
    | true =>
      rw [hx, if_pos rfl] at h
      obtain ⟨k, h1, h2, h3⟩ := ih h
      exact ⟨k, by simp [h1], by rw [if_pos rfl]; exact h2, h3⟩
    | false => exact ⟨x, by simp, by rw [if_neg (by decide)], hx⟩

def cntB : List Bool → Nat
  | [] => 0
  | b :: r => (if b = true then 1 else 0) + cntB r
theorem cntB_le : ∀ (f g : List Bool), f.length = g.length → (∀ k, f.getD k false = true → g.getD k false = true) → cntB f ≤ cntB g ∧ (cntB f = cntB g → f = g) := by
  intro f
  induction f with
  | nil => intro g hl _; cases g with | nil => exact ⟨Nat.le_refl _, fun _ => rfl⟩ | cons _ _ => simp at hl
  | cons a r ih =>
    intro g hl h
    cases g with
    | nil => simp at hl
    | cons b s =>
      have h1 := ih s (by simpa using hl) (fun k hk => by have := h (k + 1) (by simpa using hk); simpa using this)
      have h0 := h 0
      simp at h0
      cases a with
      | true =>
        have hb : b = true := h0 rfl
        subst hb
        simp only [cntB, if_true]
        exact ⟨by omega, fun e => by rw [h1.2 (by omega)]⟩
      | false =>
        cases b with
        | true =>
          simp only [cntB, if_true, Bool.false_eq_true, if_false]
          exact ⟨by omega, fun e => by omega⟩
        | false =>
          simp only [cntB, Bool.false_eq_true, if_false]
          exact ⟨by omega, fun e => by rw [h1.2 (by omega)]⟩
theorem cntB_len : ∀ (f : List Bool), cntB f ≤ f.length ∧ (cntB f = f.length → ∀ k, k < f.length → f.getD k false = true) := by
  intro f
  induction f with
  | nil => exact ⟨Nat.le_refl _, fun _ k hk => by simp at hk⟩
  | cons a r ih =>
    cases a with
    | true =>
      simp only [cntB, if_true, List.length_cons]
      refine ⟨by omega, fun e k hk => ?_⟩
      cases k with
      | zero => rfl
      | succ k => simpa using ih.2 (by omega) k (by omega)
    | false =>
      simp only [cntB, Bool.false_eq_true, if_false, List.length_cons]
      exact ⟨by omega, fun e => by omega⟩
theorem cntB_set : ∀ (f : List Bool) (k : Nat), k < f.length → f.getD k false = false → cntB (f.set k true) = cntB f + 1 := by
  intro f
  induction f with
  | nil => intro k hk; simp at hk
  | cons a r ih =>
    intro k hk h
    cases k with
    | zero =>
      have ha : a = false := by simpa using h
      subst ha
      simp [cntB]; omega
    | succ k =>
      have := ih k (by simpa using hk) (by simpa using h)
      simp only [List.set_cons_succ, cntB]
      omega
theorem getB_set (f : List Bool) (i k : Nat) (b : Bool) (hi : i < f.length) : (f.set i b).getD k false = if k = i then b else f.getD k false := by
  by_cases hk : k = i
  · subst hk; simp [hi]
  · rw [if_neg hk]
    simp [List.getElem?_set, show ¬ i = k from fun e => hk e.symm]

def InvW (ws : List (List Nat)) (f : List Bool) : Prop := ∀ i, f.getD i false = true → ∀ k ∈ ws.getD i [], f.getD k false = true

theorem row_step (ws : List (List Nat)) (S : List Bool × List Int) (n : Nat) : (wayRow ws S (n + 1)).1 = (wayRow ws S n).1.set n (decide (notFr (wayRow ws S n).1 (ws.getD n []) < 0)) ∧ (wayRow ws S (n + 1)).2 = (wayRow ws S n).2.set n (notFr (wayRow ws S n).1 (ws.getD n [])) := ⟨rfl, rfl⟩

theorem row_mono {ws : List (List Nat)} {S : List Bool × List Int} (h1 : S.1.length = ws.length) (hI : InvW ws S.1) : ∀ n, n ≤ ws.length → InvW ws (wayRow ws S n).1 ∧ ∀ m, m ≤ n → ∀ k, (wayRow ws S m).1.getD k false = true → (wayRow ws S n).1.getD k false = true := by
  intro n
  induction n with
  | zero => intro _; exact ⟨hI, fun m hm k hk => by
      have e : m = 0 := by omega
      subst e
      exact hk⟩
  | succ n ih =>
    intro hn
    obtain ⟨i1, i2⟩ := ih (by omega)
    have hl : n < (wayRow ws S n).1.length := by rw [(wayRow_len ws S n).1]; omega
    have hmono : ∀ k, (wayRow ws S n).1.getD k false = true → (wayRow ws S (n + 1)).1.getD k false = true := by
      intro k hk
      rw [(row_step ws S n).1, getB_set _ _ _ _ hl]
      split
      · rename_i e
        subst e
        simp only [decide_eq_true_eq]
        exact (notFr_neg _ _).mpr (i1 k hk)
      · exact hk
    refine ⟨?_, ?_⟩
    · intro i hi k hk
      apply hmono
      rw [(row_step ws S n).1, getB_set _ _ _ _ hl] at hi
      split at hi
      · rename_i e
        subst e
        simp only [decide_eq_true_eq] at hi
        exact (notFr_neg _ _).mp hi k hk
      · exact i1 i hi k hk
    · intro m hm k hk
      rcases Nat.lt_or_ge n m with h | h
      · obtain rfl : m = n + 1 := by omega
        exact hk
      · exact hmono k (i2 m h k hk)
theorem row_fst {ws : List (List Nat)} (S T : List Bool × List Int) (h : S.1 = T.1) : ∀ n, (wayRow ws S n).1 = (wayRow ws T n).1 := by
  intro n
  induction n with
  | zero => exact h
  | succ n ih => rw [(row_step ws S n).1, (row_step ws T n).1, ih]
theorem row_vals {ws : List (List Nat)} {S : List Bool × List Int} (h1 : S.1.length = ws.length) (h2 : S.2.length = ws.length) : ∀ n, n ≤ ws.length → ∀ i, i < n → (wayRow ws S n).2.getD i 0 = notFr (wayRow ws S i).1 (ws.getD i []) ∧ (wayRow ws S n).1.getD i false = decide (notFr (wayRow ws S i).1 (ws.getD i []) < 0) := by
  intro n
  induction n with
  | zero => intro _ i hi; omega
  | succ n ih =>
    intro hn i hi
    have hl : n < (wayRow ws S n).1.length := by rw [(wayRow_len ws S n).1]; omega
    have hl2 : n < (wayRow ws S n).2.length := by rw [(wayRow_len ws S n).2]; omega
    rw [(row_step ws S n).1, (row_step ws S n).2, getB_set _ _ _ _ hl]
    by_cases e : i = n
    · subst e
      refine ⟨?_, by rw [if_pos rfl]⟩
      simp [hl2]
    · obtain ⟨a, b⟩ := ih (by omega) i (by omega)
      rw [if_neg e, b]
      refine ⟨?_, rfl⟩
      rw [← a]
      simp [List.getElem?_set, show ¬ n = i from fun q => e q.symm]

theorem wayN_inv (ws : List (List Nat)) : ∀ r, InvW ws (wayN ws r).1 := by
  intro r
  induction r with
  | zero =>
    intro i hi
    unfold wayN at hi
    by_cases h : i < ws.length
    · simp [h] at hi
    · simp [h] at hi
  | succ r ih => exact (row_mono (wayN_len ws r).1 ih ws.length (Nat.le_refl _)).1
theorem wayN_mono (ws : List (List Nat)) (r : Nat) : ∀ k, (wayN ws r).1.getD k false = true → (wayN ws (r + 1)).1.getD k false = true := fun k hk => (row_mono (wayN_len ws r).1 (wayN_inv ws r) ws.length (Nat.le_refl _)).2 0 (Nat.zero_le _) k hk
theorem wayN_stay (ws : List (List Nat)) (r : Nat) (h : (wayN ws (r + 1)).1 = (wayN ws r).1) : ∀ d, (wayN ws (r + d)).1 = (wayN ws r).1 := by
  intro d
  induction d with
  | zero => rfl
  | succ d ih =>
    have e : (wayN ws (r + (d + 1))).1 = (wayRow ws (wayN ws (r + d)) ws.length).1 := rfl
    rw [e, row_fst _ (wayN ws r) ih ws.length]
    exact h
theorem wayN_cnt (ws : List (List Nat)) : ∀ r, (∃ q, q < r ∧ (wayN ws (q + 1)).1 = (wayN ws q).1) ∨ r ≤ cntB (wayN ws r).1 := by
  intro r
  induction r with
  | zero => exact Or.inr (Nat.zero_le _)
  | succ r ih =>
    rcases ih with ⟨q, h1, h2⟩ | h
    · exact Or.inl ⟨q, by omega, h2⟩
    · have hc := cntB_le (wayN ws r).1 (wayN ws (r + 1)).1 (by rw [(wayN_len ws r).1, (wayN_len ws (r + 1)).1]) (wayN_mono ws r)
      by_cases e : cntB (wayN ws r).1 = cntB (wayN ws (r + 1)).1
      · exact Or.inl ⟨r, by omega, (hc.2 e).symm⟩
      · exact Or.inr (by omega)

/-- What ways tells: which are free behind the last round, and of each other one that it waits for and that is not. -/
theorem ways_spec (ws : List (List Nat)) : InvW ws (wayN ws ws.length).1 ∧ (∀ i, i < ws.length → ((waysF ws).getD i 0 < 0 ↔ (wayN ws ws.length).1.getD i false = true)) ∧ (∀ i, i < ws.length → 0 ≤ (waysF ws).getD i 0 → ∃ k ∈ ws.getD i [], (waysF ws).getD i 0 = (k : Int) ∧ (wayN ws ws.length).1.getD k false = false) := by
  refine ⟨wayN_inv ws _, ?_, ?_⟩
  · intro i hi
    obtain ⟨n, hn⟩ : ∃ n, ws.length = n + 1 := ⟨ws.length - 1, by omega⟩
    have hv := row_vals (wayN_len ws n).1 (wayN_len ws n).2 ws.length (Nat.le_refl _) i hi
    have e : wayN ws ws.length = wayRow ws (wayN ws n) ws.length := by rw [hn]; show wayRow ws (wayN ws n) ws.length = _; rw [hn]
    unfold waysF
    rw [e, hv.1, hv.2]
    simp
  · intro i hi h0
    obtain ⟨n, hn⟩ : ∃ n, ws.length = n + 1 := ⟨ws.length - 1, by omega⟩
    have hv := row_vals (wayN_len ws n).1 (wayN_len ws n).2 ws.length (Nat.le_refl _) i hi
    have e : wayN ws ws.length = wayRow ws (wayN ws n) ws.length := by rw [hn]; show wayRow ws (wayN ws n) ws.length = _; rw [hn]
    have hst : (wayN ws ws.length).1 = (wayN ws n).1 := by
      rcases wayN_cnt ws ws.length with ⟨q, h1, h2⟩ | h
      · have a := wayN_stay ws q h2 (ws.length - q)
        have b := wayN_stay ws q h2 (n - q)
        rw [show q + (ws.length - q) = ws.length from by omega] at a
        rw [show q + (n - q) = n from by omega] at b
        rw [a, b]
      · exfalso
        have hc := cntB_len (wayN ws ws.length).1
        rw [(wayN_len ws ws.length).1] at hc
        have hall := hc.2 (by omega) i hi
        rw [e, hv.2] at hall
        simp only [decide_eq_true_eq] at hall
        unfold waysF at h0
        rw [e, hv.1] at h0
        omega
    have hrow : ∀ m, m ≤ ws.length → (wayRow ws (wayN ws n) m).1 = (wayN ws n).1 := by
      intro m hm
      have h1 := (row_mono (wayN_len ws n).1 (wayN_inv ws n) ws.length (Nat.le_refl _)).2 m hm
      have h2 := (row_mono (wayN_len ws n).1 (wayN_inv ws n) m hm).2 0 (Nat.zero_le _)
      rw [← e, hst] at h1
      have c1 := cntB_le (wayRow ws (wayN ws n) m).1 (wayN ws n).1 (wayRow_len ws _ m).1 h1
      have c2 := cntB_le (wayN ws n).1 (wayRow ws (wayN ws n) m).1 (wayRow_len ws _ m).1.symm h2
      exact c1.2 (by omega)
    unfold waysF at h0 ⊢
    rw [e, hv.1, hrow i (by omega)] at h0
    obtain ⟨k, k1, k2, k3⟩ := notFr_pos _ _ h0
    refine ⟨k, k1, ?_, ?_⟩
    · rw [e, hv.1, hrow i (by omega)]; exact k2
    · rw [hst]; exact k3

/-- From a head on, so many steps. -/
def goN (nx : List Int) (at0 : Nat) : Nat → Nat
  | 0 => at0
  | n + 1 => (nx.getD (goN nx at0 n) 0).toNat
/-- The heads that are met until one is met again. -/
def ringL (nx : List Int) : Nat → Nat → List Nat → List Nat
  | 0, _, l => l
  | f + 1, a, l => if a ∈ l then l else ringL nx f (nx.getD a 0).toNat (l ++ [a])
def ringF (ws : List (List Nat)) : List Nat :=
  if stuckF 0 (waysF ws) < 0 then [] else ringL (waysF ws) (ws.length + 1) (goN (waysF ws) (stuckF 0 (waysF ws)).toNat ws.length) []

theorem stuckF_spec : ∀ (zs : List Int) (n : Nat), stuckF n zs < 0 ∨ ∃ k, k < zs.length ∧ stuckF n zs = ((n + k : Nat) : Int) ∧ 0 ≤ zs.getD k 0 := by
  intro zs
  induction zs with
  | nil => intro n; left; simp [stuckF]
  | cons z r ih =>
    intro n
    unfold stuckF
    split
    · rename_i h
      exact Or.inr ⟨0, by simp, by simp, by simpa using h⟩
    · rcases ih (n + 1) with h | ⟨k, h1, h2, h3⟩
      · exact Or.inl h
      · exact Or.inr ⟨k + 1, by simp; omega, by rw [h2]; congr 1; omega, by simpa using h3⟩

/-- From each stuck one the way goes on to a stuck one. -/
theorem way_on (ws : List (List Nat)) (hj : ∀ l ∈ ws, ∀ j ∈ l, j < ws.length) (i : Nat) (hi : i < ws.length) (h : 0 ≤ (waysF ws).getD i 0) : (waysF ws).getD i 0 = (((waysF ws).getD i 0).toNat : Int) ∧ ((waysF ws).getD i 0).toNat < ws.length ∧ 0 ≤ (waysF ws).getD ((waysF ws).getD i 0).toNat 0 := by
  obtain ⟨_, h2, h3⟩ := ways_spec ws
  obtain ⟨k, k1, k2, k3⟩ := h3 i hi h
  have hk : k < ws.length := by
    have e : ws.getD i [] = ws[i] := by simp [hi]
    rw [e] at k1
    exact hj _ (List.getElem_mem hi) k k1
  refine ⟨by omega, by omega, ?_⟩
  rw [k2]
  simp only [Int.toNat_natCast]
  rcases Int.lt_or_le ((waysF ws).getD k 0) 0 with q | q
  · rw [(h2 k hk).mp q] at k3; exact absurd k3 (by decide)
  · exact q
theorem goN_ok (ws : List (List Nat)) (hj : ∀ l ∈ ws, ∀ j ∈ l, j < ws.length) (a : Nat) (ha : a < ws.length) (h : 0 ≤ (waysF ws).getD a 0) : ∀ n, goN (waysF ws) a n < ws.length ∧ 0 ≤ (waysF ws).getD (goN (waysF ws) a n) 0 := by
  intro n
  induction n with
  | zero => exact ⟨ha, h⟩
  | succ n ih => exact (way_on ws hj _ ih.1 ih.2).2
end Go.Proofs.Ytanknpmojblmcab
