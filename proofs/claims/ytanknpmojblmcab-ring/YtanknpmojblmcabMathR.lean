/-
  Plain mathematics: a want that is written so is read so.
-/
import Derived.Test.YtanknpmojblmcabMathQ
set_option linter.unusedSimpArgs false
set_option linter.unusedVariables false
namespace Go.Proofs.Ytanknpmojblmcab

def StopF (R : List UInt8) : Prop := R.head? = none ∨ R.head? = some 38 ∨ R.head? = some 124 ∨ R.head? = some 41 ∨ R.head? = some 10
def StopT (R : List UInt8) : Prop := R.head? = none ∨ R.head? = some 124 ∨ R.head? = some 41 ∨ R.head? = some 10
def StopW (R : List UInt8) : Prop := R.head? = none ∨ R.head? = some 41 ∨ R.head? = some 10
theorem StopT.f {R : List UInt8} (h : StopT R) : StopF R := by
  rcases h with h | h | h | h
  · exact Or.inl h
  · exact Or.inr (Or.inr (Or.inl h))
  · exact Or.inr (Or.inr (Or.inr (Or.inl h)))
  · exact Or.inr (Or.inr (Or.inr (Or.inr h)))
theorem StopW.t {R : List UInt8} (h : StopW R) : StopT R := by
  rcases h with h | h | h
  · exact Or.inl h
  · exact Or.inr (Or.inr (Or.inl h))
  · exact Or.inr (Or.inr (Or.inr h))

theorem byt_head {L R : List UInt8} {i : Nat} (h : L.drop i = R) : byt L i = (R.head?.map UInt8.toNat).getD 0 := by
  cases R with
  | nil =>
    have : L.length ≤ i := by
      apply Classical.byContradiction; intro q
      rw [List.drop_eq_getElem_cons (by omega)] at h; cases h
    rw [byt_out this]; rfl
  | cons c r => rw [(byt_drop h).2.1]; rfl
theorem sk_head {L R : List UInt8} {i : Nat} {c : UInt8} (h : L.drop i = R) (h0 : c.toNat ≠ 0) : sk L c.toNat (i, false) = decide (R.head? = some c) := by
  have hb := byt_head h
  cases R with
  | nil =>
    have e : byt L i = 0 := hb
    simp [sk, e]
    intro _ q; exact h0 q.symm
  | cons d r =>
    have hk := (byt_drop h).1
    have e : byt L i = d.toNat := hb
    simp only [sk, e, List.head?_cons]
    by_cases q : d = c
    · subst q; simp [hk]
    · have : d.toNat ≠ c.toNat := fun z => q (UInt8.toNat_inj.1 z)
      simp [q, this]
theorem drop_len {L A R : List UInt8} {i : Nat} (h : L.drop i = A ++ R) : i + A.length + R.length = L.length ∨ (A = [] ∧ R = []) := by
  have := congrArg List.length h
  simp at this
  by_cases hi : i ≤ L.length
  · left; omega
  · right
    constructor
    · apply List.eq_nil_of_length_eq_zero; omega
    · apply List.eq_nil_of_length_eq_zero; omega
theorem cut_of_drop {L A R : List UInt8} {i : Nat} (h : L.drop i = A ++ R) : cut L i (i + A.length) = A := by
  unfold cut
  rw [h, show i + A.length - i = A.length from by omega, List.take_left]
theorem wd_of {L : List UInt8} : ∀ (W R : List UInt8) (i : Nat), (∀ c ∈ W, c.toNat ≠ 0) → L.drop i = W ++ R → wd L W (i, false) = (i + W.length, false)
  | [], R, i, hc, h => rfl
  | c :: W, R, i, hc, h => by
    have hs := sk_head (c := c) h (hc c (by simp))
    unfold wd
    rw [hs, if_pos (by simp), wd_of W R (i + 1) (fun d hd => hc d (by simp [hd])) (byt_drop h).2.2]
    simp; omega

/-- An atom that is read as itself. -/
def AtomP (W : List UInt8) : Prop := W ≠ [] ∧ W.head? ≠ some 40 ∧ ∀ L i R, L.drop i = W ++ R → StopF R → leafS L (i, false) = (i + W.length, false)

/-- What a part of the reader makes of such a text. -/
def Reads (P : List UInt8 → List UInt8 × Nat → Prop) (S : List UInt8 → Prop) (F : List UInt8 → Nat × Bool → (List UInt8 × Nat) × (Nat × Bool)) : Prop :=
  ∀ W p L i R, P W p → L.drop i = W ++ R → S R → F L (i, false) = (p, (i + W.length, false))

theorem ptl_len (c : UInt8) (l : List (List UInt8)) : l.length ≤ (ptl c l).length := by
  induction l with
  | nil => simp
  | cons w r ih => simp [ptl]; omega
theorem reads_termL {P : List UInt8 → List UInt8 × Nat → Prop} {F : List UInt8 → Nat × Bool → (List UInt8 × Nat) × (Nat × Bool)} (hF : Reads P StopF F) (L R : List UInt8) (hR : StopT R) :
    ∀ (l : List (List UInt8 × (List UInt8 × Nat))) (i n : Nat) (t : List UInt8), (∀ x ∈ l, P x.1 x.2) → L.drop i = ptl 38 (l.map Prod.fst) ++ R → l.length ≤ n →
    termL L (F L) n (i, false) t = (t ++ ptl 38 ((l.map Prod.snd).map asF), (i + (ptl 38 (l.map Prod.fst)).length, false))
  | [], i, n, t, hl, hd, hn => by
    have hs : sk L 38 (i, false) = false := by
      have e := sk_head (c := 38) (R := R) (i := i) (L := L) (by simpa [ptl] using hd) (by decide)
      have e2 : decide (R.head? = some 38) = false := by
        rcases hR with h | h | h | h <;> rw [h] <;> decide
      rw [e2] at e; exact e
    have : termL L (F L) n (i, false) t = (t, (i, false)) := by
      cases n <;> simp [termL, hs]
    rw [this]; simp [ptl]
  | x :: r, i, n, t, hl, hd, hn => by
    have hd0 : L.drop i = 38 :: (x.1 ++ (ptl 38 (r.map Prod.fst) ++ R)) := by rw [hd]; simp [ptl]
    have hs : sk L 38 (i, false) = true := by
      have e := sk_head (c := 38) hd0 (by decide)
      simpa using e
    obtain ⟨m, rfl⟩ : ∃ m, n = m + 1 := ⟨n - 1, by simp at hn; omega⟩
    have hd1 := (byt_drop hd0).2.2
    have hst : StopF (ptl 38 (r.map Prod.fst) ++ R) := by
      cases r with
      | nil => simpa [ptl] using hR.f
      | cons y z => exact Or.inr (Or.inl rfl)
    have hx := hF x.1 x.2 L (i + 1) _ (hl x (by simp)) hd1 hst
    have hd2 := drop_more hd1
    have ih := reads_termL hF L R hR r (i + 1 + x.1.length) m (t ++ 38 :: asF x.2) (fun y hy => hl y (by simp [hy])) hd2 (by simp at hn; omega)
    unfold termL
    rw [hs, if_pos rfl]
    simp only
    rw [hx]
    simp only
    rw [ih]
    simp [ptl]; omega
theorem reads_termF {P : List UInt8 → List UInt8 × Nat → Prop} {F : List UInt8 → Nat × Bool → (List UInt8 × Nat) × (Nat × Bool)} (hF : Reads P StopF F) : Reads (TermP P) StopT (fun L => termF L (F L)) := by
  intro W p L i R hT hd hR
  obtain ⟨l, h1, h2, h3, h4⟩ := hT
  cases l with
  | nil => exact absurd rfl h1
  | cons x r =>
    have hd0 : L.drop i = x.1 ++ (ptl 38 (r.map Prod.fst) ++ R) := by rw [hd, h3]; simp [jnl]
    have hst : StopF (ptl 38 (r.map Prod.fst) ++ R) := by
      cases r with
      | nil => simpa [ptl] using hR.f
      | cons y z => exact Or.inr (Or.inl rfl)
    have hx := hF x.1 x.2 L i _ (h2 x (by simp)) hd0 hst
    have hd1 := drop_more hd0
    have hb := byt_head hd1
    show termF L (F L) (i, false) = _
    unfold termF
    rw [hx]
    simp only
    have hpk : pk L (i + x.1.length, false) = byt L (i + x.1.length) := rfl
    cases r with
    | nil =>
      have hne : ¬ pk L (i + x.1.length, false) = 38 := by
        rw [hpk, hb]
        rcases hR with h | h | h | h <;> simp [ptl, h]
      rw [if_neg hne, h4, h3]
      simp [termV, jnl, ptl]
    | cons y z =>
      have he : pk L (i + x.1.length, false) = 38 := by rw [hpk, hb]; rfl
      rw [if_pos he]
      have hlen : (y :: z).length ≤ L.length := by
        have q := ptl_len 38 ((y :: z).map Prod.fst)
        rcases drop_len hd1 with e | ⟨e, _⟩
        · simp at q e ⊢; omega
        · rw [e] at q; simp at q
      have := reads_termL hF L R hR (y :: z) (i + x.1.length) L.length (asF x.2) (fun u hu => h2 u (by simp at hu ⊢; right; exact hu)) hd1 hlen
      rw [this, h4, h3, termV_two (by simp)]
      simp [jnl]; omega
theorem reads_wantL {P : List UInt8 → List UInt8 × Nat → Prop} {F : List UInt8 → Nat × Bool → (List UInt8 × Nat) × (Nat × Bool)} (hF : Reads P StopT (fun L => termF L (F L))) (L R : List UInt8) (hR : StopW R) :
    ∀ (l : List (List UInt8 × (List UInt8 × Nat))) (i n : Nat) (t : List UInt8 × Nat), (∀ x ∈ l, P x.1 x.2) → L.drop i = ptl 124 (l.map Prod.fst) ++ R → l.length ≤ n →
    wantL L (F L) n (i, false) t = ((t.1 ++ ptl 124 ((l.map Prod.snd).map Prod.fst), t.2 + ((l.map Prod.snd).map Prod.snd).sum), (i + (ptl 124 (l.map Prod.fst)).length, false))
  | [], i, n, t, hl, hd, hn => by
    have hs : sk L 124 (i, false) = false := by
      have e := sk_head (c := 124) (R := R) (i := i) (L := L) (by simpa [ptl] using hd) (by decide)
      have e2 : decide (R.head? = some 124) = false := by
        rcases hR with h | h | h <;> rw [h] <;> decide
      rw [e2] at e; exact e
    have : wantL L (F L) n (i, false) t = (t, (i, false)) := by
      cases n <;> simp [wantL, hs]
    rw [this]; simp [ptl]
  | x :: r, i, n, t, hl, hd, hn => by
    have hd0 : L.drop i = 124 :: (x.1 ++ (ptl 124 (r.map Prod.fst) ++ R)) := by rw [hd]; simp [ptl]
    have hs : sk L 124 (i, false) = true := by
      have e := sk_head (c := 124) hd0 (by decide)
      simpa using e
    obtain ⟨m, rfl⟩ : ∃ m, n = m + 1 := ⟨n - 1, by simp at hn; omega⟩
    have hd1 := (byt_drop hd0).2.2
    have hst : StopT (ptl 124 (r.map Prod.fst) ++ R) := by
      cases r with
      | nil => simpa [ptl] using hR.t
      | cons y z => exact Or.inr (Or.inl rfl)
    have hx : termF L (F L) (i + 1, false) = _ := hF x.1 x.2 L (i + 1) _ (hl x (by simp)) hd1 hst
    have hd2 := drop_more hd1
    have ih := reads_wantL hF L R hR r (i + 1 + x.1.length) m (t.1 ++ 124 :: x.2.1, t.2 + x.2.2) (fun y hy => hl y (by simp [hy])) hd2 (by simp at hn; omega)
    unfold wantL
    rw [hs, if_pos rfl]
    simp only
    rw [hx]
    simp only
    rw [ih]
    simp [ptl]; omega
theorem reads_wantF {P : List UInt8 → List UInt8 × Nat → Prop} {F : List UInt8 → Nat × Bool → (List UInt8 × Nat) × (Nat × Bool)} (hF : Reads P StopF F) : Reads (WantP P) StopW (fun L => wantF L (F L)) := by
  have hT := reads_termF hF
  intro W p L i R hW hd hR
  obtain ⟨l, h1, h2, h3, h4⟩ := hW
  cases l with
  | nil => exact absurd rfl h1
  | cons x r =>
    have hd0 : L.drop i = x.1 ++ (ptl 124 (r.map Prod.fst) ++ R) := by rw [hd, h3]; simp [jnl]
    have hst : StopT (ptl 124 (r.map Prod.fst) ++ R) := by
      cases r with
      | nil => simpa [ptl] using hR.t
      | cons y z => exact Or.inr (Or.inl rfl)
    have hx : termF L (F L) (i, false) = _ := hT x.1 x.2 L i _ (h2 x (by simp)) hd0 hst
    have hd1 := drop_more hd0
    have hlen : r.length ≤ L.length := by
      have q := ptl_len 124 (r.map Prod.fst)
      rcases drop_len hd1 with e | ⟨e, _⟩
      · simp at q e ⊢; omega
      · rw [e] at q; simp at q; rw [q]; simp
    have := reads_wantL hT L R hR r (i + x.1.length) L.length x.2 (fun u hu => h2 u (by simp [hu])) hd1 hlen
    show wantF L (F L) (i, false) = _
    unfold wantF
    rw [hx]
    simp only
    rw [this, h4, h3]
    simp [wantV, jnl]; omega
theorem reads_fac (n : Nat) : Reads (FacP AtomP n) StopF (fun L => fac L n) := by
  have leaf : ∀ W p L i R, LeafA AtomP W ∧ p = (W, 1) → L.drop i = W ++ R → StopF R → pk L (i, false) ≠ 40 ∧ ((cut L i (leafS L (i, false)).1, 1), leafS L (i, false)) = (p, (i + W.length, false)) := by
    intro W p L i R h hd hR
    obtain ⟨⟨_, h1, h2, h3⟩, rfl⟩ := h
    have hb := byt_head hd
    rw [h3 L i R hd hR, cut_of_drop hd]
    refine ⟨?_, rfl⟩
    show byt L i ≠ 40
    rw [hb]
    cases W with
    | nil => exact absurd rfl h1
    | cons c r =>
      simp at h2 ⊢
      exact fun q => h2 (UInt8.toNat_inj.1 q)
  induction n with
  | zero =>
    intro W p L i R h hd hR
    obtain ⟨q1, q2⟩ := leaf W p L i R h hd hR
    show fac L 0 (i, false) = _
    unfold fac
    rw [if_neg q1]; exact q2
  | succ n ih =>
    intro W p L i R h hd hR
    show fac L (n + 1) (i, false) = _
    rcases h with h | ⟨M, rfl, hM⟩
    · obtain ⟨q1, q2⟩ := leaf W p L i R h hd hR
      unfold fac
      rw [if_neg q1]; exact q2
    · have hd0 : L.drop i = 40 :: (M ++ (41 :: R)) := by rw [hd]; simp
      have hb : byt L i = 40 := byt_head hd0
      have hd1 := (byt_drop hd0).2.2
      have hw : wantF L (fac L n) (i + 1, false) = _ := reads_wantF ih M p L (i + 1) _ hM hd1 (Or.inr (Or.inl rfl))
      have hd2 := drop_more hd1
      have h40 : wd L [40] (i, false) = (i + 1, false) := wd_of [40] (M ++ (41 :: R)) i (by simp) hd0
      have h41 : wd L [41] (i + 1 + M.length, false) = (i + 1 + M.length + 1, false) := wd_of [41] R _ (by simp) hd2
      unfold fac
      rw [if_pos (by show byt L i = 40; exact hb), h40, hw]
      simp only
      rw [h41]
      simp; omega
/-- A want that is written so is read so. -/
theorem reads_want : Reads (WantP (FacP AtomP 4)) StopW (fun L => wantF L (fac L 4)) := reads_wantF (reads_fac 4)

/-- A bracket and its partner. -/
theorem clo_at {W X M Z : List UInt8} (e : W = X ++ 40 :: (M ++ 41 :: Z)) (hM : Pass 1 M) : byt W X.length = 40 ∧ clo W X.length = X.length + 1 + M.length ∧ X.length + 1 + M.length < W.length := by
  have hl : W.length = X.length + 1 + M.length + 1 + Z.length := by rw [e]; simp; omega
  have hd0 : W.drop X.length = 40 :: (M ++ 41 :: Z) := by rw [e]; exact List.drop_left
  obtain ⟨hk, hb, hd1⟩ := byt_drop hd0
  obtain ⟨hk2, hb2, hd2⟩ := byt_drop (drop_more hd1)
  have hb : byt W X.length = 40 := hb
  have hb2 : byt W (X.length + 1 + M.length) = 41 := hb2
  refine ⟨hb, ?_, by omega⟩
  unfold clo
  rw [show W.length - X.length = ((Z.length + 1) + M.length) + 1 from by omega, cloI, if_pos hb, (hM W _ _ hd1).1 _ _ (by omega), cloI, if_neg (by omega), if_pos hb2, if_pos (by omega)]
/-- The plain form of a want is a want, with itself as its plain form; it is no longer. -/
theorem plain_stable (n : Nat) : ∀ (f : Nat) (W : List UInt8) (p : List UInt8 × Nat), W.length ≤ f → WantP (FacP AtomP n) W p → WantP (FacP AtomP n) p.1 p ∧ p.1.length ≤ W.length := by
  intro f
  induction f with
  | zero =>
    intro W p hl h
    have hN : NS W := by
      intro X M Z e
      have : W = [] := List.eq_nil_of_length_eq_zero (by omega)
      rw [this] at e; simp at e
    have := plain_want n h hN
    rw [this]; exact ⟨h, Nat.le_refl _⟩
  | succ f ih =>
    intro W p hl h
    by_cases hN : NS W
    · have := plain_want n h hN
      rw [this]; exact ⟨h, Nat.le_refl _⟩
    · unfold NS at hN
      simp only [Classical.not_forall, not_imp, Classical.not_not] at hN
      obtain ⟨X, M', Z', e, hM', hs⟩ := hN
      obtain ⟨M, Z, e2, hM, hstep⟩ := step_want n W p X (M' ++ 41 :: Z') h e
      obtain ⟨_, q1, _⟩ := clo_at e hM'
      obtain ⟨_, q2, _⟩ := clo_at (e.trans (by rw [e2])) hM
      have hl2 : M'.length = M.length := by omega
      obtain ⟨rfl, e3⟩ := List.append_inj e2 hl2
      injection e3 with _ e3
      subst e3
      have hw := hstep [] [] (by simp) (by simp) (by simpa using hs)
      have hlen : (X ++ M' ++ Z').length + 2 = W.length := by rw [e]; simp; omega
      obtain ⟨r1, r2⟩ := ih (X ++ M' ++ Z') p (by omega) hw
      exact ⟨r1, by omega⟩

end Go.Proofs.Ytanknpmojblmcab
