/-
  Plain functions on texts: how the program's reader reads a want; bounds of what it hands back.
-/
import Derived.Test.YtanknpmojblmcaaGreatDoorSpec
set_option linter.unusedSimpArgs false
set_option linter.unusedVariables false
namespace Go.Proofs.YtanknpmojblmcaaGreatDoor

def asF (p : List UInt8 × Nat) : List UInt8 := if p.2 > 1 then (40 : UInt8) :: (p.1 ++ [41]) else p.1

/-- A factor without brackets: the state behind it. -/
def leafS (L : List UInt8) (s : Nat × Bool) : Nat × Bool :=
  if pk L s = 115 then wd L [115, 105, 110, 103, 108, 101] s
  else if pk L s = 111 then refS L (wd L [111, 107, 58] s)
  else if pk L s = 97 then refS L (wd L [97, 110, 121, 58] s)
  else if pk L s = 110 then refS L (wd L [110, 111, 116, 58] s)
  else (s.1, true)

def termL (L : List UInt8) (F : Nat × Bool → (List UInt8 × Nat) × (Nat × Bool)) : Nat → Nat × Bool → List UInt8 → List UInt8 × (Nat × Bool)
  | 0, s, t => (t, s)
  | n + 1, s, t => if sk L 38 s then termL L F n (F (s.1 + 1, s.2)).2 (t ++ 38 :: asF (F (s.1 + 1, s.2)).1) else (t, s)
def termF (L : List UInt8) (F : Nat × Bool → (List UInt8 × Nat) × (Nat × Bool)) (s : Nat × Bool) : (List UInt8 × Nat) × (Nat × Bool) :=
  if pk L (F s).2 = 38 then (((termL L F L.length (F s).2 (asF (F s).1)).1, 1), (termL L F L.length (F s).2 (asF (F s).1)).2) else F s
def wantL (L : List UInt8) (F : Nat × Bool → (List UInt8 × Nat) × (Nat × Bool)) : Nat → Nat × Bool → List UInt8 × Nat → (List UInt8 × Nat) × (Nat × Bool)
  | 0, s, p => (p, s)
  | n + 1, s, p => if sk L 124 s then wantL L F n (termF L F (s.1 + 1, s.2)).2 (p.1 ++ 124 :: (termF L F (s.1 + 1, s.2)).1.1, p.2 + (termF L F (s.1 + 1, s.2)).1.2) else (p, s)
def wantF (L : List UInt8) (F : Nat × Bool → (List UInt8 × Nat) × (Nat × Bool)) (s : Nat × Bool) : (List UInt8 × Nat) × (Nat × Bool) :=
  wantL L F L.length (termF L F s).2 (termF L F s).1
/-- A factor, with n brackets more in one another at most. -/
def fac (L : List UInt8) : Nat → Nat × Bool → (List UInt8 × Nat) × (Nat × Bool)
  | 0, s => if pk L s = 40 then (([], 1), (s.1, true)) else ((cut L s.1 (leafS L s).1, 1), leafS L s)
  | n + 1, s =>
    if pk L s = 40 then ((wantF L (fac L n) (wd L [40] s)).1, wd L [41] (wantF L (fac L n) (wd L [40] s)).2)
    else ((cut L s.1 (leafS L s).1, 1), leafS L s)

/-- A reader goes on, and not beyond the text. -/
def Goes (L : List UInt8) (s r : Nat × Bool) : Prop := s.1 ≤ r.1 ∧ r.1 ≤ L.length

theorem sk_lt {L : List UInt8} {c : Nat} {s : Nat × Bool} (h : sk L c s = true) : s.1 < L.length ∧ s.2 = false ∧ byt L s.1 = c := by
  simp [sk] at h; exact ⟨h.1.2, h.1.1, h.2⟩
theorem wd_goes (L W : List UInt8) : ∀ s : Nat × Bool, s.1 ≤ L.length → Goes L s (wd L W s) := by
  induction W with
  | nil => intro s hs; exact ⟨Nat.le_refl _, hs⟩
  | cons c r ih =>
    intro s hs
    unfold wd
    cases h : sk L c.toNat s with
    | false => exact ⟨Nat.le_refl _, hs⟩
    | true =>
      have := sk_lt h
      have := ih (s.1 + 1, s.2) (by show s.1 + 1 ≤ _; omega)
      exact ⟨by have := this.1; simp at this ⊢; omega, this.2⟩
theorem lets_goes (L : List UInt8) (n : Nat) : ∀ i, i ≤ L.length → lets L n i + i ≤ L.length := by
  induction n with
  | zero => intro i hi; simp [lets]; omega
  | succ n ih =>
    intro i hi
    unfold lets
    split
    · have h : i < L.length := byt_in (by intro e; simp_all [letB])
      have := ih (i + 1) h; omega
    · omega
theorem nmS_goes (L : List UInt8) (s : Nat × Bool) (hs : s.1 ≤ L.length) : Goes L s (nmS L s) := by
  unfold nmS
  split
  · exact ⟨Nat.le_refl _, hs⟩
  · have := lets_goes L 6 s.1 hs
    exact ⟨by simp, by simp; omega⟩
theorem numS_goes (L : List UInt8) (s : Nat × Bool) (hs : s.1 ≤ L.length) : Goes L s (numS L s) := by
  have key : ∀ i f, digB (pk L (i, f)) = true → i < L.length := by
    intro i f h
    unfold pk at h
    split at h
    · simp [digB] at h
    · exact byt_in (by intro e; simp_all [digB])
  unfold numS
  split
  · rename_i h
    have h1 := key s.1 s.2 h
    split
    · exact ⟨by simp, by simp; omega⟩
    · rename_i h2
      have h2 := key (s.1 + 1) s.2 (by simp at h2; exact h2.2)
      exact ⟨by simp, by simp; omega⟩
  · exact ⟨Nat.le_refl _, hs⟩
theorem Goes.trans {L : List UInt8} {s r q : Nat × Bool} (h : Goes L s r) (k : Goes L r q) : Goes L s q := ⟨Nat.le_trans h.1 k.1, k.2⟩
theorem refS_goes (L : List UInt8) (s : Nat × Bool) (hs : s.1 ≤ L.length) : Goes L s (refS L s) := by
  have h1 := nmS_goes L s hs
  unfold refS
  simp only
  split
  · rename_i h
    have hlt := (sk_lt h).1
    have h2 : Goes L (nmS L s) ((nmS L s).1 + 1, (nmS L s).2) := ⟨by simp, by simp; omega⟩
    have h3 := numS_goes L ((nmS L s).1 + 1, (nmS L s).2) h2.2
    have h4 := wd_goes L [93] _ h3.2
    exact ((h1.trans h2).trans h3).trans h4
  · exact h1
theorem leafS_goes (L : List UInt8) (s : Nat × Bool) (hs : s.1 ≤ L.length) : Goes L s (leafS L s) := by
  unfold leafS
  split
  · exact wd_goes L _ s hs
  split
  · have h := wd_goes L [111, 107, 58] s hs; exact h.trans (refS_goes L _ h.2)
  split
  · have h := wd_goes L [97, 110, 121, 58] s hs; exact h.trans (refS_goes L _ h.2)
  split
  · have h := wd_goes L [110, 111, 116, 58] s hs; exact h.trans (refS_goes L _ h.2)
  · exact ⟨Nat.le_refl _, hs⟩

/-- What a part of a want hands back is bounded by what it passed. -/
def Fits (s : Nat × Bool) (p : List UInt8 × Nat) (r : Nat × Bool) : Prop :=
  p.1.length + 3 * s.1 ≤ 3 * r.1 ∧ 1 ≤ p.2 ∧ p.2 + s.1 ≤ r.1 + 1
def FitsF (s : Nat × Bool) (p : List UInt8 × Nat) (r : Nat × Bool) : Prop := Fits s p r ∧ (asF p).length + 3 * s.1 ≤ 3 * r.1
def GoodF (L : List UInt8) (F : Nat × Bool → (List UInt8 × Nat) × (Nat × Bool)) : Prop :=
  ∀ s : Nat × Bool, s.1 ≤ L.length → Goes L s (F s).2 ∧ FitsF s (F s).1 (F s).2
def GoodT (L : List UInt8) (F : Nat × Bool → (List UInt8 × Nat) × (Nat × Bool)) : Prop :=
  ∀ s : Nat × Bool, s.1 ≤ L.length → Goes L s (F s).2 ∧ Fits s (F s).1 (F s).2

theorem termL_good {L : List UInt8} {F : Nat × Bool → (List UInt8 × Nat) × (Nat × Bool)} (h : GoodF L F) (n : Nat) : ∀ (s : Nat × Bool) (t : List UInt8), s.1 ≤ L.length →
    Goes L s (termL L F n s t).2 ∧ (termL L F n s t).1.length + 3 * s.1 ≤ 3 * (termL L F n s t).2.1 + t.length := by
  induction n with
  | zero => intro s t hs; exact ⟨⟨Nat.le_refl _, hs⟩, by simp [termL]; omega⟩
  | succ n ih =>
    intro s t hs
    unfold termL
    split
    · rename_i hk
      have hlt := (sk_lt hk).1
      have h1 := h (s.1 + 1, s.2) (by show s.1 + 1 ≤ _; omega)
      have h2 := ih (F (s.1 + 1, s.2)).2 (t ++ 38 :: asF (F (s.1 + 1, s.2)).1) h1.1.2
      have h3 := h1.1.1; have h4 := h1.2.2; have h5 := h2.1.1
      simp at h2 h3 h4 h5
      exact ⟨⟨by simp at *; omega, h2.1.2⟩, by simp at *; omega⟩
    · exact ⟨⟨Nat.le_refl _, hs⟩, by simp; omega⟩

theorem termF_good {L : List UInt8} {F : Nat × Bool → (List UInt8 × Nat) × (Nat × Bool)} (h : GoodF L F) : GoodT L (termF L F) := by
  intro s hs
  have h1 := h s hs
  unfold termF
  split
  · have h2 := termL_good h L.length (F s).2 (asF (F s).1) h1.1.2
    have h3 := h1.1.1; have h4 := h1.2.2; have h5 := h2.1.1
    refine ⟨⟨by simp at *; omega, h2.1.2⟩, by simp at *; omega, by simp, by simp at *; omega⟩
  · exact ⟨h1.1, h1.2.1⟩

theorem wantL_good {L : List UInt8} {F : Nat × Bool → (List UInt8 × Nat) × (Nat × Bool)} (h : GoodF L F) (n : Nat) : ∀ (s : Nat × Bool) (p : List UInt8 × Nat), s.1 ≤ L.length → 1 ≤ p.2 →
    Goes L s (wantL L F n s p).2 ∧ (wantL L F n s p).1.1.length + 3 * s.1 ≤ 3 * (wantL L F n s p).2.1 + p.1.length ∧ 1 ≤ (wantL L F n s p).1.2 ∧ (wantL L F n s p).1.2 + s.1 ≤ (wantL L F n s p).2.1 + p.2 := by
  induction n with
  | zero => intro s p hs hp; exact ⟨⟨Nat.le_refl _, hs⟩, by simp [wantL]; omega, hp, by simp [wantL]; omega⟩
  | succ n ih =>
    intro s p hs hp
    unfold wantL
    split
    · rename_i hk
      have hlt := (sk_lt hk).1
      have h1 := termF_good h (s.1 + 1, s.2) (by show s.1 + 1 ≤ _; omega)
      have h2 := ih (termF L F (s.1 + 1, s.2)).2 (p.1 ++ 124 :: (termF L F (s.1 + 1, s.2)).1.1, p.2 + (termF L F (s.1 + 1, s.2)).1.2) h1.1.2 (by simp; omega)
      generalize termF L F (s.1 + 1, s.2) = q at *
      generalize wantL L F n q.2 (p.1 ++ 124 :: q.1.1, p.2 + q.1.2) = r at *
      have h3 := h1.1.1; have h4 := h1.2.1; have h5 := h1.2.2; have h6 := h2.1.1
      simp at *
      exact ⟨⟨by omega, h2.1.2⟩, by omega, by omega, by omega⟩
    · exact ⟨⟨Nat.le_refl _, hs⟩, by simp; omega, hp, by simp; omega⟩

theorem wantF_good {L : List UInt8} {F : Nat × Bool → (List UInt8 × Nat) × (Nat × Bool)} (h : GoodF L F) : GoodT L (wantF L F) := by
  intro s hs
  have h1 := termF_good h s hs
  have h2 := wantL_good h L.length (termF L F s).2 (termF L F s).1 h1.1.2 h1.2.2.1
  unfold wantF
  have h3 := h1.1.1; have h4 := h1.2.1; have h5 := h1.2.2; have h6 := h2.1.1
  exact ⟨⟨by omega, h2.1.2⟩, by omega, by omega, by omega⟩

theorem cut_len (L : List UInt8) (i k : Nat) (h : k ≤ L.length) : (cut L i k).length = k - i := by
  simp [cut]; omega

theorem leaf_fits {L : List UInt8} {s : Nat × Bool} (hs : s.1 ≤ L.length) : Goes L s (leafS L s) ∧ FitsF s (cut L s.1 (leafS L s).1, 1) (leafS L s) := by
  have h := leafS_goes L s hs
  have hl := cut_len L s.1 (leafS L s).1 h.2
  have h1 := h.1
  exact ⟨h, ⟨by simp [hl]; omega, by simp, by simp; omega⟩, by simp [asF, hl]; omega⟩

theorem asF_len (p : List UInt8 × Nat) : (asF p).length ≤ p.1.length + 2 := by unfold asF; split <;> simp

theorem wd40 {L : List UInt8} {s : Nat × Bool} (h : pk L s = 40) : s.1 < L.length ∧ s.2 = false ∧ wd L [40] s = (s.1 + 1, false) := by
  unfold pk at h
  split at h
  · simp at h
  · rename_i hf
    have hlt := byt_in (L := L) (i := s.1) (by omega)
    have hf' : s.2 = false := by simpa using hf
    have hk : sk L 40 s = true := by simp [sk, hf', hlt, h]
    exact ⟨hlt, hf', by simp [wd, hk, hf']⟩

theorem fac_good (L : List UInt8) (n : Nat) : GoodF L (fac L n) := by
  induction n with
  | zero =>
    intro s hs
    unfold fac
    split
    · exact ⟨⟨Nat.le_refl _, hs⟩, ⟨by simp, by simp, by simp; omega⟩, by simp [asF]⟩
    · exact leaf_fits hs
  | succ n ih =>
    intro s hs
    unfold fac
    split
    · rename_i h40
      obtain ⟨hlt, hf, he⟩ := wd40 h40
      rw [he]
      have h1 := wantF_good ih (s.1 + 1, false) hlt
      generalize wantF L (fac L n) (s.1 + 1, false) = r at *
      have h2 := wd_goes L [41] r.2 h1.1.2
      have h3 := h1.1.1; have h4 := h1.2.1; have h5 := h1.2.2; have h6 := h2.1; have h7 := asF_len r.1
      simp at *
      exact ⟨⟨by omega, h2.2⟩, ⟨by omega, by omega, by omega⟩, by omega⟩
    · exact leaf_fits hs

def leafQ (L : List UInt8) (s : Nat × Bool) : List Stp :=
  if pk L s = 115 then [stp 4]
  else if pk L s = 111 then [refQ L 1 (wd L [111, 107, 58] s)]
  else if pk L s = 97 then [refQ L 2 (wd L [97, 110, 121, 58] s)]
  else if pk L s = 110 then [refQ L 3 (wd L [110, 111, 116, 58] s)]
  else []
def termLQ (L : List UInt8) (F : Nat × Bool → (List UInt8 × Nat) × (Nat × Bool)) (G : Nat × Bool → List Stp) : Nat → Nat × Bool → List Stp
  | 0, _ => []
  | n + 1, s => if sk L 38 s then G (s.1 + 1, s.2) ++ stp 5 :: termLQ L F G n (F (s.1 + 1, s.2)).2 else []
def termQ (L : List UInt8) (F : Nat × Bool → (List UInt8 × Nat) × (Nat × Bool)) (G : Nat × Bool → List Stp) (s : Nat × Bool) : List Stp :=
  G s ++ termLQ L F G L.length (F s).2
def wantLQ (L : List UInt8) (F : Nat × Bool → (List UInt8 × Nat) × (Nat × Bool)) (G : Nat × Bool → List Stp) : Nat → Nat × Bool → List Stp
  | 0, _ => []
  | n + 1, s => if sk L 124 s then termQ L F G (s.1 + 1, s.2) ++ stp 6 :: wantLQ L F G n (termF L F (s.1 + 1, s.2)).2 else []
def wantQ (L : List UInt8) (F : Nat × Bool → (List UInt8 × Nat) × (Nat × Bool)) (G : Nat × Bool → List Stp) (s : Nat × Bool) : List Stp :=
  termQ L F G s ++ wantLQ L F G L.length (termF L F s).2
/-- The steps of a factor, with n brackets more in one another at most. -/
def facQ (L : List UInt8) : Nat → Nat × Bool → List Stp
  | 0, s => if pk L s = 40 then [] else leafQ L s
  | n + 1, s => if pk L s = 40 then wantQ L (fac L n) (facQ L n) (wd L [40] s) else leafQ L s

theorem termLQ_no {L : List UInt8} {F : Nat × Bool → (List UInt8 × Nat) × (Nat × Bool)} {G : Nat × Bool → List Stp} {n : Nat} {s : Nat × Bool} (h : sk L 38 s = false) : termLQ L F G n s = [] := by
  cases n <;> simp [termLQ, h]
theorem termLQ_yes {L : List UInt8} {F : Nat × Bool → (List UInt8 × Nat) × (Nat × Bool)} {G : Nat × Bool → List Stp} {n : Nat} {s : Nat × Bool} (h : sk L 38 s = true) : termLQ L F G (n + 1) s = G (s.1 + 1, s.2) ++ stp 5 :: termLQ L F G n (F (s.1 + 1, s.2)).2 := by simp [termLQ, h]
theorem wantLQ_no {L : List UInt8} {F : Nat × Bool → (List UInt8 × Nat) × (Nat × Bool)} {G : Nat × Bool → List Stp} {n : Nat} {s : Nat × Bool} (h : sk L 124 s = false) : wantLQ L F G n s = [] := by
  cases n <;> simp [wantLQ, h]
theorem wantLQ_yes {L : List UInt8} {F : Nat × Bool → (List UInt8 × Nat) × (Nat × Bool)} {G : Nat × Bool → List Stp} {n : Nat} {s : Nat × Bool} (h : sk L 124 s = true) : wantLQ L F G (n + 1) s = termQ L F G (s.1 + 1, s.2) ++ stp 6 :: wantLQ L F G n (termF L F (s.1 + 1, s.2)).2 := by simp [wantLQ, h]

/-- No more steps than bytes passed. -/
def GoodQ (L : List UInt8) (F : Nat × Bool → (List UInt8 × Nat) × (Nat × Bool)) (G : Nat × Bool → List Stp) : Prop :=
  ∀ s : Nat × Bool, s.1 ≤ L.length → (G s).length + s.1 ≤ (F s).2.1

theorem wd_first {L r : List UInt8} {c : UInt8} {s : Nat × Bool} (h : pk L s = c.toNat) (h0 : c.toNat ≠ 0) : s.1 + 1 ≤ (wd L (c :: r) s).1 := by
  have hk : sk L c.toNat s = true := by
    unfold pk at h
    split at h
    · omega
    · rename_i hf
      have hlt := byt_in (L := L) (i := s.1) (by omega)
      have hf' : s.2 = false := by simpa using hf
      simp [sk, hf', hlt, h]
  unfold wd
  rw [if_pos hk]
  have := wd_goes L r (s.1 + 1, s.2) (by have := (sk_lt hk).1; show s.1 + 1 ≤ _; omega)
  exact this.1
theorem leafQ_len (L : List UInt8) (s : Nat × Bool) : (leafQ L s).length ≤ 1 := by
  unfold leafQ
  split
  · simp
  split
  · simp
  split
  · simp
  split
  · simp
  · simp
theorem leafQ_good (L : List UInt8) (s : Nat × Bool) (hs : s.1 ≤ L.length) : (leafQ L s).length + s.1 ≤ (leafS L s).1 := by
  unfold leafQ leafS
  split
  · rename_i h
    have := wd_first (L := L) (r := [105, 110, 103, 108, 101]) (c := 115) (s := s) h (by decide)
    simp; omega
  split
  · rename_i h
    have q := wd_first (L := L) (r := [107, 58]) (c := 111) (s := s) h (by decide)
    have := refS_goes L _ (wd_goes L [111, 107, 58] s hs).2
    have := this.1
    simp; omega
  split
  · rename_i h
    have q := wd_first (L := L) (r := [110, 121, 58]) (c := 97) (s := s) h (by decide)
    have := refS_goes L _ (wd_goes L [97, 110, 121, 58] s hs).2
    have := this.1
    simp; omega
  split
  · rename_i h
    have q := wd_first (L := L) (r := [111, 116, 58]) (c := 110) (s := s) h (by decide)
    have := refS_goes L _ (wd_goes L [110, 111, 116, 58] s hs).2
    have := this.1
    simp; omega
  · simp

theorem termLQ_good {L : List UInt8} {F : Nat × Bool → (List UInt8 × Nat) × (Nat × Bool)} {G : Nat × Bool → List Stp} (hF : GoodF L F) (hG : GoodQ L F G) (n : Nat) : ∀ (s : Nat × Bool) (t : List UInt8), s.1 ≤ L.length →
    (termLQ L F G n s).length + s.1 ≤ (termL L F n s t).2.1 := by
  induction n with
  | zero => intro s t hs; simp [termLQ, termL]
  | succ n ih =>
    intro s t hs
    unfold termLQ termL
    split
    · rename_i hk
      have hlt := (sk_lt hk).1
      have h1 := hF (s.1 + 1, s.2) (by show s.1 + 1 ≤ _; omega)
      have h2 := hG (s.1 + 1, s.2) (by show s.1 + 1 ≤ _; omega)
      have h3 := ih (F (s.1 + 1, s.2)).2 (t ++ 38 :: asF (F (s.1 + 1, s.2)).1) h1.1.2
      simp at h2 h3 ⊢
      omega
    · simp
theorem termQ_good {L : List UInt8} {F : Nat × Bool → (List UInt8 × Nat) × (Nat × Bool)} {G : Nat × Bool → List Stp} (hF : GoodF L F) (hG : GoodQ L F G) : GoodQ L (termF L F) (termQ L F G) := by
  intro s hs
  have h1 := hG s hs
  have h2 := hF s hs
  unfold termQ termF
  split
  · have := termLQ_good hF hG L.length (F s).2 (asF (F s).1) h2.1.2
    simp at this ⊢
    omega
  · rename_i h38
    have hsk : sk L 38 (F s).2 = false := by
      cases h : sk L 38 (F s).2 with
      | false => rfl
      | true =>
        exfalso; apply h38
        obtain ⟨q1, q2, q3⟩ := sk_lt h
        simp [pk, q2, q3]
    rw [termLQ_no hsk]
    simpa using h1
theorem wantLQ_good {L : List UInt8} {F : Nat × Bool → (List UInt8 × Nat) × (Nat × Bool)} {G : Nat × Bool → List Stp} (hF : GoodF L F) (hG : GoodQ L F G) (n : Nat) : ∀ (s : Nat × Bool) (p : List UInt8 × Nat), s.1 ≤ L.length →
    (wantLQ L F G n s).length + s.1 ≤ (wantL L F n s p).2.1 := by
  induction n with
  | zero => intro s t hs; simp [wantLQ, wantL]
  | succ n ih =>
    intro s p hs
    unfold wantLQ wantL
    split
    · rename_i hk
      have hlt := (sk_lt hk).1
      have h1 := termF_good hF (s.1 + 1, s.2) (by show s.1 + 1 ≤ _; omega)
      have h2 := termQ_good hF hG (s.1 + 1, s.2) (by show s.1 + 1 ≤ _; omega)
      have h3 := ih (termF L F (s.1 + 1, s.2)).2 (p.1 ++ 124 :: (termF L F (s.1 + 1, s.2)).1.1, p.2 + (termF L F (s.1 + 1, s.2)).1.2) h1.1.2
      simp at h2 h3 ⊢
      omega
    · simp
theorem wantQ_good {L : List UInt8} {F : Nat × Bool → (List UInt8 × Nat) × (Nat × Bool)} {G : Nat × Bool → List Stp} (hF : GoodF L F) (hG : GoodQ L F G) : GoodQ L (wantF L F) (wantQ L F G) := by
  intro s hs
  have h1 := termF_good hF s hs
  have h2 := termQ_good hF hG s hs
  have h3 := wantLQ_good hF hG L.length (termF L F s).2 (termF L F s).1 h1.1.2
  unfold wantQ wantF
  simp
  omega
theorem facQ_good (L : List UInt8) (n : Nat) : GoodQ L (fac L n) (facQ L n) := by
  induction n with
  | zero =>
    intro s hs
    unfold facQ fac
    split
    · simp
    · exact leafQ_good L s hs
  | succ n ih =>
    intro s hs
    unfold facQ fac
    split
    · have h1 := wd_goes L [40] s hs
      have h2 := wantQ_good (fac_good L n) ih _ h1.2
      have h3 := wantF_good (fac_good L n) _ h1.2
      have h4 := wd_goes L [41] (wantF L (fac L n) (wd L [40] s)).2 h3.1.2
      have := h1.1; have := h4.1
      dsimp only
      omega
    · exact leafQ_good L s hs

end Go.Proofs.YtanknpmojblmcaaGreatDoor
