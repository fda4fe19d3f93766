/-
  Plain mathematics: what bytes the reader of the program has passed.
-/
import Derived.Test.YtanknpmojblmcaaMathD
import Derived.Test.YtanknpmojblmcaaRSpec2
import Derived.Test.YtanknpmojblmcaaRefI
import Derived.Test.YtanknpmojblmcaaReadX
import Derived.IntWalk
set_option linter.unusedSimpArgs false
set_option linter.unusedVariables false
namespace Go.Proofs.Ytanknpmojblmcaa

theorem cut_byt {L W : List UInt8} {i : Nat} (h : cut L i (i + W.length) = W) (k : Nat) (hk : k < W.length) : byt L (i + k) = byt W k := by
  have e : (cut L i (i + W.length))[k]? = W[k]? := by rw [h]
  unfold cut at e
  rw [List.getElem?_take_of_lt (by omega), List.getElem?_drop] at e
  simp [byt, List.getD_eq_getElem?_getD, e]
theorem cut_cons {L : List UInt8} {i k : Nat} (h : i < L.length) (hk : i < k) : cut L i k = L[i] :: cut L (i + 1) k := by
  unfold cut
  rw [List.drop_eq_getElem_cons h, show k - i = (k - (i + 1)) + 1 from by omega, List.take_succ_cons]

/-- A word that was passed. -/
theorem wd_ok (L W : List UInt8) : ∀ (s : Nat × Bool), (wd L W s).2 = false → s.2 = false ∧ wd L W s = (s.1 + W.length, false) ∧ cut L s.1 (s.1 + W.length) = W ∧ (W ≠ [] → s.1 + W.length ≤ L.length) := by
  induction W with
  | nil => intro s h; obtain ⟨i, f⟩ := s; simp [wd] at h; subst h; exact ⟨rfl, rfl, by simp [cut], by simp⟩
  | cons c r ih =>
    intro s h
    unfold wd at h ⊢
    cases hs : sk L c.toNat s with
    | false => rw [hs] at h; simp at h
    | true =>
      rw [hs] at h
      simp only [if_true] at h ⊢
      obtain ⟨h1, h2, h3, h4⟩ := ih _ h
      have hk := sk_lt hs
      refine ⟨hk.2.1, by rw [h2]; simp only [List.length_cons]; congr 1; omega, ?_, ?_⟩
      · rw [cut_cons hk.1 (by simp)]
        have hb : L[s.1] = c := by
          apply UInt8.toNat_inj.1
          have := hk.2.2
          simpa [byt, List.getD_eq_getElem?_getD, List.getElem?_eq_getElem hk.1] using this
        rw [hb]
        simp only at h3
        rw [show s.1 + (c :: r).length = s.1 + 1 + r.length from by simp; omega, h3]
      · intro _
        cases r with
        | nil => have := hk.1; simp; omega
        | cons d r => have := h4 (by simp); simp at this ⊢; omega
theorem nm_ok {L : List UInt8} {s : Nat × Bool} (h : (nmS L s).2 = false) : s.2 = false ∧ nmS L s = (s.1 + lets L 6 s.1, false) ∧ 1 ≤ lets L 6 s.1 := by
  obtain ⟨i, f⟩ := s
  cases f with
  | true => simp [nmS] at h
  | false =>
    simp [nmS] at h
    exact ⟨rfl, by simp [nmS, h], by show 1 ≤ lets L 6 i; omega⟩
theorem lets_let (L : List UInt8) (n : Nat) : ∀ i k, k < lets L n i → letB (byt L (i + k)) = true := by
  induction n with
  | zero => intro i k h; simp [lets] at h
  | succ n ih =>
    intro i k h
    unfold lets at h
    split at h
    · rename_i hb
      cases k with
      | zero => simpa using hb
      | succ k => have := ih (i + 1) k (by omega); rw [show i + (k + 1) = i + 1 + k from by omega]; exact this
    · omega
/-- A number that was passed: one or two digits. -/
theorem num_ok {L : List UInt8} {s : Nat × Bool} (h : (numS L s).2 = false) : s.2 = false ∧ digB (byt L s.1) = true ∧
    ((numS L s = (s.1 + 1, false) ∧ numV L s = byt L s.1 - 48) ∨ (numS L s = (s.1 + 2, false) ∧ digB (byt L (s.1 + 1)) = true ∧ numV L s = 10 * (byt L s.1 - 48) + (byt L (s.1 + 1) - 48))) := by
  obtain ⟨i, f⟩ := s
  cases f with
  | true => simp [numS, pk, digB] at h
  | false =>
    have hp : ∀ j, pk L (j, false) = byt L j := by intro j; simp [pk]
    cases hd : digB (byt L i) with
    | false => simp [numS, hp, hd] at h
    | true =>
      refine ⟨rfl, rfl, ?_⟩
      by_cases h2 : byt L i = 48 ∨ digB (byt L (i + 1)) = false
      · left
        constructor
        · unfold numS; rw [hp, if_pos hd, hp, if_pos (by rcases h2 with h2 | h2 <;> simp [h2])]
        · unfold numV; rw [hp, if_pos hd, hp, if_pos (by rcases h2 with h2 | h2 <;> simp [h2])]
      · right
        have h3 : byt L i ≠ 48 := fun q => h2 (Or.inl q)
        have h4 : digB (byt L (i + 1)) = true := by cases q : digB (byt L (i + 1)) with
          | true => rfl
          | false => exact absurd (Or.inr q) h2
        refine ⟨?_, h4, ?_⟩
        · unfold numS; rw [hp, if_pos hd, hp, if_neg (by simp [h3, h4])]
        · unfold numV; rw [hp, if_pos hd, hp, if_neg (by simp [h3, h4])]
theorem sk_ok {L : List UInt8} {c i : Nat} (h : sk L c (i, false) = true) : i < L.length ∧ byt L i = c := ⟨(sk_lt h).1, (sk_lt h).2.2⟩

/-- From i to j stand no sign of equality and no newline. -/
def NoNE (L : List UInt8) (i j : Nat) : Prop := ∀ k, i ≤ k → k < j → byt L k ≠ 61 ∧ byt L k ≠ 10
theorem NoNE.trans {L : List UInt8} {i j k : Nat} (h : NoNE L i j) (h2 : NoNE L j k) : NoNE L i k := fun x h3 h4 => by
  by_cases q : x < j
  · exact h x h3 q
  · exact h2 x (by omega) h4
theorem NoNE.one {L : List UInt8} {i : Nat} (h : byt L i ≠ 61 ∧ byt L i ≠ 10) : NoNE L i (i + 1) := fun k h1 h2 => by
  have : k = i := by omega
  subst this; exact h
theorem NoNE.nil {L : List UInt8} {i : Nat} : NoNE L i i := fun k h1 h2 => by omega
theorem wd_none {L W : List UInt8} {s : Nat × Bool} (h : (wd L W s).2 = false) (hW : ∀ c ∈ W, c ≠ 61 ∧ c ≠ 10) : NoNE L s.1 (wd L W s).1 := by
  obtain ⟨h1, h2, h3, h4⟩ := wd_ok L W s h
  rw [h2]
  intro k hk1 hk2
  simp only at hk2
  have e := cut_byt h3 (k - s.1) (by omega)
  rw [show s.1 + (k - s.1) = k from by omega] at e
  have hlt : k - s.1 < W.length := by omega
  have hm := hW W[k - s.1] (List.getElem_mem hlt)
  have hb : byt W (k - s.1) = W[k - s.1].toNat := by simp [byt, List.getD_eq_getElem?_getD, List.getElem?_eq_getElem hlt]
  rw [e, hb]
  constructor
  · intro q; exact hm.1 (UInt8.toNat_inj.1 q)
  · intro q; exact hm.2 (UInt8.toNat_inj.1 q)
theorem nm_none {L : List UInt8} {s : Nat × Bool} (h : (nmS L s).2 = false) : NoNE L s.1 (nmS L s).1 := by
  obtain ⟨h1, h2, h3⟩ := nm_ok h
  rw [h2]
  intro k hk1 hk2
  have := lets_let L 6 s.1 (k - s.1) (by simp at hk2; omega)
  rw [show s.1 + (k - s.1) = k from by omega] at this
  simp [letB] at this; omega
theorem num_none' {L : List UInt8} {s : Nat × Bool} (h : (numS L s).2 = false) : NoNE L s.1 (numS L s).1 := by
  obtain ⟨h1, h2, h3⟩ := num_ok h
  simp [digB] at h2
  rcases h3 with ⟨e, -⟩ | ⟨e, h4, -⟩
  · rw [e]; exact NoNE.one (by omega)
  · rw [e]; simp [digB] at h4
    exact (NoNE.one (by omega)).trans (NoNE.one (i := s.1 + 1) (by omega))
theorem ref_none {L : List UInt8} {s : Nat × Bool} (h : (refS L s).2 = false) : NoNE L s.1 (refS L s).1 := by
  unfold refS at h ⊢
  simp only at h ⊢
  cases hs : sk L 91 (nmS L s) with
  | false => rw [hs] at h; simp at h ⊢; exact nm_none h
  | true =>
    rw [hs] at h
    simp only [if_true] at h ⊢
    have h1 := (wd_ok L [93] _ h).1
    have h2 := (num_ok h1).1
    have hk := sk_lt hs
    exact (((nm_none h2).trans (NoNE.one (by rw [hk.2.2]; decide))).trans (num_none' h1)).trans (wd_none h (by decide))
theorem leaf_none {L : List UInt8} {s : Nat × Bool} (h : (leafS L s).2 = false) : NoNE L s.1 (leafS L s).1 := by
  have rf : ∀ s : Nat × Bool, (refS L s).2 = false → s.2 = false := by
    intro s h; obtain ⟨i, f⟩ := s
    cases f with
    | false => rfl
    | true => rw [refS_fail] at h; cases h
  unfold leafS at h ⊢
  split at h
  · rw [if_pos (by assumption)]; exact wd_none h (by decide)
  rw [if_neg (by assumption)]
  split at h
  · rw [if_pos (by assumption)]; exact (wd_none (rf _ h) (by decide)).trans (ref_none h)
  rw [if_neg (by assumption)]
  split at h
  · rw [if_pos (by assumption)]; exact (wd_none (rf _ h) (by decide)).trans (ref_none h)
  rw [if_neg (by assumption)]
  split at h
  · rw [if_pos (by assumption)]; exact (wd_none (rf _ h) (by decide)).trans (ref_none h)
  · cases h

def FNone (L : List UInt8) (F : Nat × Bool → (List UInt8 × Nat) × (Nat × Bool)) : Prop := ∀ s, (F s).2.2 = false → NoNE L s.1 (F s).2.1
theorem termL_none {L : List UInt8} {F : Nat × Bool → (List UInt8 × Nat) × (Nat × Bool)} (hF : FNone L F) (hff : FFail F) (n : Nat) : ∀ s t, (termL L F n s t).2.2 = false → s.2 = false ∧ NoNE L s.1 (termL L F n s t).2.1 := by
  induction n with
  | zero => intro s t h; exact ⟨h, NoNE.nil⟩
  | succ n ih =>
    intro s t h
    unfold termL at h ⊢
    cases hs : sk L 38 s with
    | false => rw [hs] at h; simp at h ⊢; exact ⟨h, NoNE.nil⟩
    | true =>
      rw [hs] at h
      simp only [if_true] at h ⊢
      obtain ⟨h1, h2⟩ := ih _ _ h
      have hk := sk_lt hs
      exact ⟨hk.2.1, ((NoNE.one (by rw [hk.2.2]; decide)).trans (hF _ h1)).trans h2⟩
theorem termF_none {L : List UInt8} {F : Nat × Bool → (List UInt8 × Nat) × (Nat × Bool)} (hF : FNone L F) (hff : FFail F) : FNone L (termF L F) := by
  intro s h
  unfold termF at h ⊢
  split at h
  · rw [if_pos (by assumption)]
    obtain ⟨h1, h2⟩ := termL_none hF hff _ _ _ h
    exact (hF s h1).trans h2
  · rw [if_neg (by assumption)]; exact hF s h
theorem wantL_none {L : List UInt8} {F : Nat × Bool → (List UInt8 × Nat) × (Nat × Bool)} (hF : FNone L F) (hff : FFail F) (n : Nat) : ∀ s p, (wantL L F n s p).2.2 = false → s.2 = false ∧ NoNE L s.1 (wantL L F n s p).2.1 := by
  induction n with
  | zero => intro s p h; exact ⟨h, NoNE.nil⟩
  | succ n ih =>
    intro s p h
    unfold wantL at h ⊢
    cases hs : sk L 124 s with
    | false => rw [hs] at h; simp at h ⊢; exact ⟨h, NoNE.nil⟩
    | true =>
      rw [hs] at h
      simp only [if_true] at h ⊢
      obtain ⟨h1, h2⟩ := ih _ _ h
      have hk := sk_lt hs
      exact ⟨hk.2.1, ((NoNE.one (by rw [hk.2.2]; decide)).trans (termF_none hF hff _ h1)).trans h2⟩
theorem wantF_none {L : List UInt8} {F : Nat × Bool → (List UInt8 × Nat) × (Nat × Bool)} (hF : FNone L F) (hff : FFail F) : FNone L (wantF L F) := by
  intro s h
  obtain ⟨h1, h2⟩ := wantL_none hF hff _ _ _ h
  exact (termF_none hF hff s h1).trans h2
theorem fac_none (L : List UInt8) (n : Nat) : FNone L (fac L n) := by
  induction n with
  | zero =>
    intro s h
    unfold fac at h ⊢
    split at h
    · cases h
    · rw [if_neg (by assumption)]; exact leaf_none h
  | succ n ih =>
    intro s h
    unfold fac at h ⊢
    split at h
    · rw [if_pos (by assumption)]
      have h1 := (wd_ok L [41] _ h).1
      have hw := wantF_none ih (fac_fail L n) _ h1
      have h2 : (wd L [40] s).2 = false := by
        cases q : (wd L [40] s).2 with
        | false => rfl
        | true =>
          have e : wd L [40] s = ((wd L [40] s).1, true) := Prod.ext rfl q
          rw [e, wantF_fail (fac_fail L n)] at h1; cases h1
      exact ((wd_none h2 (by decide)).trans hw).trans (wd_none h (by decide))
    · rw [if_neg (by assumption)]; exact leaf_none h
theorem want_none (L : List UInt8) : FNone L (wantF L (fac L 4)) := wantF_none (fac_none L 4) (fac_fail L 4)

/-- A key of a head's text: found just once, or not. -/
theorem beh_one {L key : List UInt8} {a b p : Nat} (h : cut L p (p + key.length) = key) (h1 : a ≤ p) (h2 : p + key.length ≤ b)
    (hu : ∀ i, a ≤ i → i < p → cut L i (i + key.length) ≠ key) : behO L a b key = some (p + key.length) := by
  have gen : ∀ n i, i ≤ p → p < i + n → a ≤ i → behI L key n i = some (p + key.length) := by
    intro n
    induction n with
    | zero => intro i hi hn ha; omega
    | succ n ih =>
      intro i hi hn ha
      unfold behI
      by_cases e : i = p
      · subst e; rw [if_pos (by simpa using h)]
      · rw [if_neg (by simpa using hu i ha (by omega))]
        exact ih (i + 1) (by omega) (by omega) (by omega)
  exact gen _ a h1 (by omega) (Nat.le_refl _)
theorem beh_no {L key : List UInt8} {a b : Nat} (hu : ∀ i, a ≤ i → i + key.length ≤ b → cut L i (i + key.length) ≠ key) : behO L a b key = none := by
  have gen : ∀ n i, i + key.length + n ≤ b + 1 → a ≤ i → behI L key n i = none := by
    intro n
    induction n with
    | zero => intro i _ _; rfl
    | succ n ih =>
      intro i hi ha
      unfold behI
      rw [if_neg (by simpa using hu i ha (by omega))]
      exact ih (i + 1) (by omega) (by omega)
  unfold behO
  by_cases q : a + key.length ≤ b + 1
  · exact gen _ a (by omega) (Nat.le_refl _)
  · rw [show b + 1 - key.length - a = 0 from by omega]; rfl

theorem wrap_small {n : Int} (h1 : 0 ≤ n) (h2 : n ≤ 100000) : Go.RowKit.wrap64 n = n := Go.IntWalk.wrap64_in (by omega) (by omega)

theorem numI_ok {L : List UInt8} {p : Nat} (h : (numS L (p, false)).2 = false) (hs : digB (byt L (numS L (p, false)).1) = false) : numI L (some p) = (numV L (p, false) : Int) := by
  obtain ⟨-, h2, h3⟩ := num_ok h
  have hl : p < L.length := byt_in (by intro e; rw [e] at h2; simp [digB] at h2)
  show numR L (L.length - p) p 0 = _
  simp only at h2 h3
  obtain ⟨f, hf⟩ : ∃ f, L.length - p = f + 1 := ⟨L.length - p - 1, by omega⟩
  rw [hf, numR, if_pos h2]
  have d1 : 48 ≤ byt L p ∧ byt L p ≤ 57 := by simpa [digB] using h2
  have w1 : Go.RowKit.wrap64 (Go.RowKit.wrap64 (10 * 0) + ((byt L p : Int) - 48)) = ((byt L p - 48 : Nat) : Int) := by
    rw [wrap_small (n := 10 * 0) (by omega) (by omega), wrap_small (by omega) (by omega)]; omega
  rw [w1]
  rcases h3 with ⟨e, hv⟩ | ⟨e, h4, hv⟩
  · rw [e] at hs; rw [hv]
    simp only at hs
    cases f with
    | zero => rfl
    | succ f => rw [numR, if_neg (by rw [hs]; decide)]
  · rw [e] at hs; rw [hv]
    simp only at hs
    have hl2 : p + 1 < L.length := byt_in (by intro e; rw [e] at h4; simp [digB] at h4)
    have d2 : 48 ≤ byt L (p + 1) ∧ byt L (p + 1) ≤ 57 := by simpa [digB] using h4
    obtain ⟨g, rfl⟩ : ∃ g, f = g + 1 := ⟨f - 1, by omega⟩
    have w2 : Go.RowKit.wrap64 (Go.RowKit.wrap64 (10 * ((byt L p - 48 : Nat) : Int)) + ((byt L (p + 1) : Int) - 48)) = ((10 * (byt L p - 48) + (byt L (p + 1) - 48) : Nat) : Int) := by
      rw [wrap_small (n := 10 * ((byt L p - 48 : Nat) : Int)) (by omega) (by omega), wrap_small (by omega) (by omega)]; omega
    rw [numR, if_pos h4, w2]
    cases g with
    | zero => rfl
    | succ g => rw [numR, if_neg (by rw [hs]; decide)]

theorem pastI_ok {L : List UInt8} (m : Nat) : ∀ (n i : Nat), (∀ k, k < m → letB (byt L (i + k)) = true) → letB (byt L (i + m)) = false → m < n → pastI L n i = i + m := by
  induction m with
  | zero => intro n i h1 h2 hn; obtain ⟨n', rfl⟩ : ∃ n', n = n' + 1 := ⟨n - 1, by omega⟩; rw [pastI, if_neg (by simpa using h2)]; rfl
  | succ m ih =>
    intro n i h1 h2 hn
    obtain ⟨n', rfl⟩ : ∃ n', n = n' + 1 := ⟨n - 1, by omega⟩
    rw [pastI, if_pos (by simpa using h1 0 (by omega)), ih n' (i + 1) (fun k hk => by have := h1 (k + 1) (by omega); rw [show i + 1 + k = i + (k + 1) from by omega]; exact this) (by rw [show i + 1 + m = i + (m + 1) from by omega]; exact h2) (by omega)]
    omega

/-- Ahead of each sign of equality from i to j stands one of these. -/
def EqP (L : List UInt8) (i j : Nat) (S : List Nat) : Prop := ∀ k, i ≤ k → k < j → byt L k = 61 → byt L (k - 1) ∈ S
theorem EqP.of {L : List UInt8} {i j : Nat} (h : NoNE L i j) (S : List Nat) : EqP L i j S := fun k h1 h2 h3 => absurd h3 (h k h1 h2).1
theorem EqP.trans {L : List UInt8} {i j k : Nat} {S : List Nat} (h : EqP L i j S) (h2 : EqP L j k S) : EqP L i k S := fun x h3 h4 h5 => by
  by_cases q : x < j
  · exact h x h3 q h5
  · exact h2 x (by omega) h4 h5
theorem EqP.mono {L : List UInt8} {i j : Nat} {S S' : List Nat} (h : EqP L i j S) (hs : ∀ x ∈ S, x ∈ S') : EqP L i j S' := fun k h1 h2 h3 => hs _ (h k h1 h2 h3)
theorem EqP.sub {L : List UInt8} {i j j' : Nat} {S : List Nat} (h : EqP L i j S) (hj : j' ≤ j) : EqP L i j' S := fun k h1 h2 h3 => h k h1 (by omega) h3
/-- A word that ends in a sign of equality. -/
theorem EqP.word {L K : List UInt8} {p : Nat} {q : UInt8} (h : cut L p (p + (K ++ [q, 61]).length) = K ++ [q, 61]) (hK : ∀ c ∈ K, c ≠ 61) (hq : q ≠ 61) :
    EqP L p (p + K.length + 2) [q.toNat] ∧ EqP L p (p + K.length + 1) [] := by
  have key : ∀ k, k < K.length + 2 → byt L (p + k) = 61 → k = K.length + 1 := by
    intro k hk hb
    rw [cut_byt h k (by simp; omega)] at hb
    by_cases e : k < K.length
    · have : byt (K ++ [q, 61]) k = K[k].toNat := by simp [byt, List.getD_eq_getElem?_getD, List.getElem?_append_left e, List.getElem?_eq_getElem e]
      rw [this] at hb
      exact absurd (UInt8.toNat_inj.1 hb) (hK _ (List.getElem_mem e))
    · by_cases e2 : k = K.length
      · subst e2
        have : byt (K ++ [q, 61]) K.length = q.toNat := by simp [byt, List.getD_eq_getElem?_getD]
        rw [this] at hb
        exact absurd (UInt8.toNat_inj.1 hb) hq
      · omega
  constructor
  · intro k h1 h2 h3
    have e := key (k - p) (by omega) (by rw [show p + (k - p) = k from by omega]; exact h3)
    have hb := cut_byt h K.length (by simp)
    have : byt (K ++ [q, 61]) K.length = q.toNat := by simp [byt, List.getD_eq_getElem?_getD]
    rw [this] at hb
    rw [show k - 1 = p + K.length from by omega, hb]; simp
  · intro k h1 h2 h3
    have e := key (k - p) (by omega) (by rw [show p + (k - p) = k from by omega]; exact h3)
    omega
theorem occ {L K : List UInt8} {a b i : Nat} {q : UInt8} {S : List Nat} (h : cut L i (i + (K ++ [q, 61]).length) = K ++ [q, 61]) (h1 : a ≤ i) (h2 : i + (K.length + 2) ≤ b) (hS : EqP L a b S) : q.toNat ∈ S := by
  have b1 := cut_byt h K.length (by simp)
  have b2 := cut_byt h (K.length + 1) (by simp)
  have e1 : byt (K ++ [q, 61]) K.length = q.toNat := by simp [byt, List.getD_eq_getElem?_getD]
  have e2 : byt (K ++ [q, 61]) (K.length + 1) = 61 := by simp [byt, List.getD_eq_getElem?_getD]
  rw [e1] at b1; rw [e2] at b2
  have := hS (i + (K.length + 1)) (by omega) (by omega) b2
  rw [show i + (K.length + 1) - 1 = i + K.length from by omega, b1] at this
  exact this
theorem key_one {L K : List UInt8} {a b p : Nat} {q : UInt8} {S : List Nat} (h : cut L p (p + (K ++ [q, 61]).length) = K ++ [q, 61]) (h1 : a ≤ p) (h2 : p + (K.length + 2) ≤ b) (hS : EqP L a (p + K.length + 1) S) (hq : q.toNat ∉ S) :
    behO L a b (K ++ [q, 61]) = some (p + (K.length + 2)) := by
  have := beh_one (b := b) h h1 (by simpa using h2) (fun i hi hlt hc => hq (occ hc hi (by omega) hS))
  simpa using this
theorem key_no {L K : List UInt8} {a b : Nat} {q : UInt8} {S : List Nat} (hS : EqP L a b S) (hq : q.toNat ∉ S) : behO L a b (K ++ [q, 61]) = none :=
  beh_no (fun i hi hb hc => hq (occ hc hi (by simpa using hb) hS))

/-- What both sides say of a head. -/
structure Same (h : HV) (x : RV) : Prop where
  name : x.name = h.name
  nodes : x.nodes = (h.nodes : Int)
  time : x.time = (h.time : Int)
  arr : x.arr = h.arr
  lo : x.lo = (h.lo : Int)
  hi : x.hi = (h.hi : Int)
  after : x.after = h.after
  nameAt : x.nameAt = (h.nameAt : Int)
  nodesAt : x.nodesAt = (h.nodesAt : Int)
  timeAt : x.timeAt = (h.timeAt : Int)
  arrayAt : h.arr = true → x.arrayAt = (h.arrayAt : Int)

/-- Up to a head's time. -/
structure Front (L : List UInt8) (a p1 n2 t2 : Nat) : Prop where
  sees : seesB L a = true
  name : nmS L (a + 3, false) = (p1, false)
  h1 : hed1 L (a, false) = (a + 3, false)
  h2 : hed2 L (a, false) = (p1 + 7, false)
  n : numS L (p1 + 7, false) = (n2, false)
  h3 : hed3 L (a, false) = (n2 + 6, false)
  h4 : hed4 L (a, false) = (t2, false)
  t : numS L (n2 + 6, false) = (t2, false)
  wn : cut L p1 (p1 + 7) = kNodes
  wt : cut L n2 (n2 + 6) = kTime
  le : t2 ≤ L.length

theorem front_of {L : List UInt8} {a : Nat} (hs : seesB L a = true) (h : (hed4 L (a, false)).2 = false) : ∃ p1 n2 t2, Front L a p1 n2 t2 := by
  obtain ⟨e1, hl⟩ := sees_hed1 hs
  have q4 := num_ok h
  have q3 := wd_ok L _ _ q4.1
  have q2 := num_ok q3.1
  have q1 := wd_ok L _ _ q2.1
  have q0 := nm_ok q1.1
  have qq := q0.1
  rw [e1] at qq
  have qw := wd_ok L _ _ qq
  have E1 : hed1 L (a, false) = (a + 3, false) := by rw [e1, qw.2.1]; rfl
  rw [E1] at q0
  have EN : nmS L (hed1 L (a, false)) = ((nmS L (a + 3, false)).1, false) := by rw [E1]; exact Prod.ext rfl (by rw [q0.2.1])
  have E2 : hed2 L (a, false) = ((nmS L (a + 3, false)).1 + 7, false) := by
    show wd L _ (nmS L (hed1 L (a, false))) = _
    rw [q1.2.1, EN]; rfl
  have E3 : hed3 L (a, false) = ((numS L ((nmS L (a + 3, false)).1 + 7, false)).1 + 6, false) := by
    show wd L _ (numS L (hed2 L (a, false))) = _
    rw [q3.2.1, E2]; rfl
  have F2 : numS L ((nmS L (a + 3, false)).1 + 7, false) = ((numS L ((nmS L (a + 3, false)).1 + 7, false)).1, false) := by
    have := q3.1; rw [E2] at this; exact Prod.ext rfl this
  have g := hed4_goes L (a, false) (by show a ≤ _; omega)
  refine ⟨(nmS L (a + 3, false)).1, (numS L ((nmS L (a + 3, false)).1 + 7, false)).1, (hed4 L (a, false)).1, hs, Prod.ext rfl (by rw [q0.2.1]), E1, E2, F2, E3, Prod.ext rfl h, ?_, ?_, ?_, g.2⟩
  · rw [← E3]; exact Prod.ext rfl h
  · have := q1.2.2.1; rw [EN] at this; exact this
  · have := q3.2.2.1; rw [E2] at this; exact this

theorem digs_end {L : List UInt8} {p p' : Nat} (h : numS L (p, false) = (p', false)) : p < p' ∧ p' ≤ p + 2 ∧ NoNE L p p' := by
  have q := num_ok (L := L) (s := (p, false)) (by rw [h])
  have nn := num_none' (L := L) (s := (p, false)) (by rw [h])
  rw [h] at nn
  rcases q.2.2 with ⟨e, -⟩ | ⟨e, -, -⟩
  · rw [h] at e; cases e; exact ⟨by simp, by simp, nn⟩
  · rw [h] at e; cases e; exact ⟨by simp, by simp, nn⟩

theorem Front.eqs {L : List UInt8} {a p1 n2 t2 : Nat} (F : Front L a p1 n2 t2) : a + 3 < p1 ∧ p1 + 7 < n2 ∧ n2 + 6 < t2 ∧
    EqP L a (p1 + 6) [] ∧ EqP L a (n2 + 5) [115] ∧ EqP L a t2 [115, 101] ∧ (∀ k, a ≤ k → k < t2 → byt L k ≠ 10) := by
  have hs := F.sees
  simp [seesB] at hs
  have qn := nm_ok (L := L) (s := (a + 3, false)) (by rw [F.name])
  have nn := nm_none (L := L) (s := (a + 3, false)) (by rw [F.name])
  rw [F.name] at nn
  have hp : a + 3 < p1 := by have := qn.2.1; rw [F.name] at this; cases this; simp at *; omega
  have w0 := F.h1
  have b2 : byt L (a + 2) = 32 := by
    obtain ⟨e1, hl⟩ := sees_hed1 F.sees
    rw [e1] at w0
    have := (wd_ok L [32] (a + 2, false) (by rw [w0])).2.2.1
    exact cut_byt this 0 (by simp)
  have z0 : NoNE L a (a + 3) := ((NoNE.one (by omega)).trans (NoNE.one (i := a + 1) (by omega))).trans (NoNE.one (i := a + 2) (by omega))
  have d1 := digs_end F.n
  have d2 := digs_end F.t
  have e1 := EqP.word (L := L) (K := [32, 110, 111, 100, 101]) (q := 115) (p := p1) F.wn (by decide) (by decide)
  have e2 := EqP.word (L := L) (K := [32, 116, 105, 109]) (q := 101) (p := n2) F.wt (by decide) (by decide)
  have z1 : NoNE L a p1 := z0.trans nn
  have A1 : EqP L a (p1 + 6) [] := (EqP.of z1 []).trans e1.2
  have A2 : EqP L a (p1 + 7) [115] := (EqP.of z1 _).trans e1.1
  have A3 : EqP L a n2 [115] := A2.trans (EqP.of d1.2.2 _)
  have A4 : EqP L a (n2 + 5) [115] := A3.trans (e2.2.mono (by simp))
  have A5 : EqP L a (n2 + 6) [115, 101] := (A3.mono (by simp)).trans (e2.1.mono (by simp))
  have A6 : EqP L a t2 [115, 101] := A5.trans (EqP.of d2.2.2 _)
  refine ⟨hp, by omega, by omega, A1, A4, A6, ?_⟩
  intro k h1 h2
  by_cases c1 : k < p1
  · exact (z1 k h1 c1).2
  by_cases c2 : k < p1 + 7
  · have := cut_byt (L := L) (W := kNodes) (i := p1) F.wn (k - p1) (by simp [kNodes]; omega)
    rw [show p1 + (k - p1) = k from by omega] at this
    rw [this]
    obtain h | h | h | h | h | h | h : k - p1 = 0 ∨ k - p1 = 1 ∨ k - p1 = 2 ∨ k - p1 = 3 ∨ k - p1 = 4 ∨ k - p1 = 5 ∨ k - p1 = 6 := by omega
    all_goals rw [h]; decide
  by_cases c3 : k < n2
  · exact (d1.2.2 k (by omega) c3).2
  by_cases c4 : k < n2 + 6
  · have := cut_byt (L := L) (W := kTime) (i := n2) F.wt (k - n2) (by simp [kTime]; omega)
    rw [show n2 + (k - n2) = k from by omega] at this
    rw [this]
    obtain h | h | h | h | h | h : k - n2 = 0 ∨ k - n2 = 1 ∨ k - n2 = 2 ∨ k - n2 = 3 ∨ k - n2 = 4 ∨ k - n2 = 5 := by omega
    all_goals rw [h]; decide
  · exact (d2.2.2 k (by omega) h2).2

/-- What the document's answer says of a head, up to its options. -/
theorem Front.same {L : List UInt8} {a p1 n2 t2 j f : Nat} {hv : HV} (F : Front L a p1 n2 t2) (hj : t2 ≤ j) (hd : digB (byt L t2) = false)
    (hv1 : hv.name = (hedV L (a, false)).name ∧ hv.nodes = (hedV L (a, false)).nodes ∧ hv.time = (hedV L (a, false)).time ∧ hv.nameAt = (hedV L (a, false)).nameAt ∧ hv.nodesAt = (hedV L (a, false)).nodesAt ∧ hv.timeAt = (hedV L (a, false)).timeAt)
    (hA : (behO L a j kArray = none ∧ hv.arr = false ∧ hv.lo = 0 ∧ hv.hi = 0) ∨ (∃ pA, behO L a j kArray = some pA ∧ hv.arr = true ∧ numI L (some pA) = (hv.lo : Int) ∧ numI L (behO L pA j [45]) = (hv.hi : Int) ∧ hv.arrayAt = pA))
    (hW : aftO L f j (behO L a j kAfter) = hv.after) : Same hv (rhd L f a j) := by
  obtain ⟨l1, l2, l3, E1, E2, E3, _⟩ := F.eqs
  obtain ⟨v1, v2, v3, v4, v5, v6⟩ := hv1
  have bN : behO L a j kNodes = some (p1 + 7) := key_one (K := [32, 110, 111, 100, 101]) (q := 115) F.wn (by omega) (by simp; omega) E1 (by simp)
  have bT : behO L a j kTime = some (n2 + 6) := key_one (K := [32, 116, 105, 109]) (q := 101) F.wt (by omega) (by simp; omega) E2 (by simp)
  have hdn : digB (byt L n2) = false := by
    have := cut_byt (L := L) (W := kTime) (i := n2) F.wt 0 (by decide)
    simp at this; rw [this]; decide
  have vN : numI L (some (p1 + 7)) = (numV L (p1 + 7, false) : Int) := numI_ok (by rw [F.n]) (by rw [F.n]; exact hdn)
  have vT : numI L (some (n2 + 6)) = (numV L (n2 + 6, false) : Int) := numI_ok (by rw [F.t]) (by rw [F.t]; exact hd)
  have qn := nm_ok (L := L) (s := (a + 3, false)) (by rw [F.name])
  have hpe : p1 = a + 3 + lets L 6 (a + 3) := by have := qn.2.1; rw [F.name] at this; cases this; rfl
  have hb32 : byt L p1 = 32 := by
    have := cut_byt (L := L) (W := kNodes) (i := p1) F.wn 0 (by decide)
    simpa [kNodes, byt] using this
  have pst : pastI L (j - (a + 3)) (a + 3) = p1 := by
    rw [hpe]
    exact pastI_ok _ _ _ (fun k hk => lets_let L 6 (a + 3) k hk) (by rw [← hpe, hb32]; decide) (by omega)
  have n1 : (hedV L (a, false)).name = cut L (a + 3) p1 := by show cut L (hed1 L (a, false)).1 (nmS L (hed1 L (a, false))).1 = _; rw [F.h1, F.name]
  have n2' : (hedV L (a, false)).nodes = numV L (p1 + 7, false) := by show numV L (hed2 L (a, false)) = _; rw [F.h2]
  have n3 : (hedV L (a, false)).time = numV L (n2 + 6, false) := by show numV L (hed3 L (a, false)) = _; rw [F.h3]
  have n4 : (hedV L (a, false)).nameAt = a + 3 := by show (hed1 L (a, false)).1 = _; rw [F.h1]
  have n5 : (hedV L (a, false)).nodesAt = p1 + 7 := by show (hed2 L (a, false)).1 = _; rw [F.h2]
  have n6 : (hedV L (a, false)).timeAt = n2 + 6 := by show (hed3 L (a, false)).1 = _; rw [F.h3]
  refine { name := ?_, nodes := ?_, time := ?_, arr := ?_, lo := ?_, hi := ?_, after := hW, nameAt := ?_, nodesAt := ?_, timeAt := ?_, arrayAt := ?_ }
  · show cut L (a + 3) (pastI L (j - (a + 3)) (a + 3)) = _; rw [pst, v1, n1]
  · show numI L (behO L a j kNodes) = _; rw [bN, vN, v2, n2']
  · show numI L (behO L a j kTime) = _; rw [bT, vT, v3, n3]
  · show (behO L a j kArray).isSome = _
    rcases hA with ⟨q, r, -, -⟩ | ⟨pA, q, r, -, -, -⟩ <;> rw [q, r] <;> rfl
  · show numI L (behO L a j kArray) = _
    rcases hA with ⟨q, -, r, -⟩ | ⟨pA, q, -, r, -, -⟩
    · rw [q, r]; rfl
    · rw [q, r]
  · show hiO L j (behO L a j kArray) = _
    rcases hA with ⟨q, -, -, r⟩ | ⟨pA, q, -, -, r, -⟩
    · rw [q, r]; rfl
    · rw [q]; exact r
  · show (a : Int) + 3 = _; rw [v4, n4]; omega
  · show oi (behO L a j kNodes) = _; rw [bN, v5, n5]; rfl
  · show oi (behO L a j kTime) = _; rw [bT, v6, n6]; rfl
  · intro harr
    show oi (behO L a j kArray) = _
    rcases hA with ⟨q, r, -, -⟩ | ⟨pA, q, -, -, -, r⟩
    · rw [r] at harr; cases harr
    · rw [q, r]; rfl

end Go.Proofs.Ytanknpmojblmcaa
