/-
  Plain mathematics: wants as joined texts whose leaves are of a kind Kd, and their plain forms (after MathP, which has them for all leaves).
-/
import Derived.Test.YtanknpmojblmcabRSpec2
import Derived.Test.YtanknpmojblmcabMathD
set_option linter.unusedSimpArgs false
set_option linter.unusedVariables false
namespace Go.Proofs.Ytanknpmojblmcab

theorem cutNI_40 {W : List UInt8} {c f k m : Nat} {n : Int} (h : byt W k = 40) : cutNI W c (f + 1) k n m = cutNI W c f (k + 1) (n + 1) m := by rw [cutNI, if_pos h]
theorem cutNI_41 {W : List UInt8} {c f k m : Nat} {n : Int} (h : byt W k = 41) : cutNI W c (f + 1) k n m = cutNI W c f (k + 1) (n - 1) m := by rw [cutNI, if_neg (by omega), if_pos h]
theorem cutNI_c {W : List UInt8} {c f k m : Nat} {n : Int} (h1 : byt W k ≠ 40) (h2 : byt W k ≠ 41) (h : byt W k = c ∧ n = 0) : cutNI W c (f + 1) k n m = cutNI W c f (k + 1) n (m + 1) := by rw [cutNI, if_neg h1, if_neg h2, if_pos h]
theorem cutNI_o {W : List UInt8} {c f k m : Nat} {n : Int} (h1 : byt W k ≠ 40) (h2 : byt W k ≠ 41) (h : ¬ (byt W k = c ∧ n = 0)) : cutNI W c (f + 1) k n m = cutNI W c f (k + 1) n m := by rw [cutNI, if_neg h1, if_neg h2, if_neg h]

theorem cutNI_pos (W : List UInt8) (c : Nat) (f : Nat) : ∀ k n m, m + 1 ≤ cutNI W c f k n m ∧ cutNI W c f k n m ≤ m + 1 + f := by
  induction f with
  | zero => intro k n m; simp [cutNI]
  | succ f ih =>
    intro k n m
    unfold cutNI
    split
    · have := ih (k + 1) (n + 1) m; omega
    split
    · have := ih (k + 1) (n - 1) m; omega
    split
    · have := ih (k + 1) n (m + 1); omega
    · have := ih (k + 1) n m; omega
theorem cutN_pos (W : List UInt8) (c : Nat) : 1 ≤ cutN W c ∧ cutN W c ≤ 1 + W.length := by
  have := cutNI_pos W c W.length 0 0 0; unfold cutN; omega

/-- Texts joined by a byte. -/
def ptl (c : UInt8) : List (List UInt8) → List UInt8
  | [] => []
  | w :: r => c :: (w ++ ptl c r)
def phd (c : UInt8) : List (List UInt8) → List UInt8
  | [] => []
  | w :: r => w ++ c :: phd c r
def jnl (c : UInt8) : List (List UInt8) → List UInt8
  | [] => []
  | w :: r => w ++ ptl c r

theorem ptl_append (c : UInt8) (a b : List (List UInt8)) : ptl c (a ++ b) = ptl c a ++ ptl c b := by
  induction a with
  | nil => rfl
  | cons w r ih => simp [ptl, ih]
theorem jnl_splice (c : UInt8) (a m b : List (List UInt8)) (hm : m ≠ []) : jnl c (a ++ m ++ b) = phd c a ++ jnl c m ++ ptl c b := by
  induction a with
  | nil =>
    cases m with
    | nil => exact absurd rfl hm
    | cons w r => simp [jnl, phd, ptl_append]
  | cons w r ih =>
    have e : ∀ x : List (List UInt8), x ≠ [] → ptl c x = c :: jnl c x := by
      intro x hx
      cases x with
      | nil => exact absurd rfl hx
      | cons y z => rfl
    have hne : r ++ m ++ b ≠ [] := by
      cases m with
      | nil => exact absurd rfl hm
      | cons x y => simp
    show w ++ ptl c (r ++ m ++ b) = _
    rw [e _ hne, ih]
    simp [phd]
theorem jnl_one (c : UInt8) (a : List (List UInt8)) (w : List UInt8) (b : List (List UInt8)) : jnl c (a ++ w :: b) = phd c a ++ w ++ ptl c b := by
  have := jnl_splice c a [w] b (by simp)
  simpa [jnl, ptl] using this
theorem phd_last (c : UInt8) (a : List (List UInt8)) (ha : a ≠ []) : (phd c a).getLast? = some c := by
  induction a with
  | nil => exact absurd rfl ha
  | cons w r ih =>
    cases r with
    | nil => simp [phd]
    | cons x y =>
      have := ih (by simp)
      show (w ++ c :: phd c (x :: y)).getLast? = some c
      rw [List.getLast?_append, List.getLast?_cons, this]; rfl
theorem ptl_first (c : UInt8) (a : List (List UInt8)) (ha : a ≠ []) : (ptl c a).head? = some c := by
  cases a with
  | nil => exact absurd rfl ha
  | cons w r => rfl

/-- In which of the joined texts a bracket stands. -/
theorem ptl_find {α : Type} (c : UInt8) (hc : c ≠ 40) (g : α → List UInt8) (l : List α) : ∀ X Y, ptl c (l.map g) = X ++ 40 :: Y →
    ∃ l1 x l2 X' Y', l = l1 ++ x :: l2 ∧ g x = X' ++ 40 :: Y' ∧ X = c :: (phd c (l1.map g) ++ X') ∧ Y = Y' ++ ptl c (l2.map g) := by
  induction l with
  | nil => intro X Y h; simp [ptl] at h
  | cons y r ih =>
    intro X Y h
    have h : c :: (g y ++ ptl c (r.map g)) = X ++ 40 :: Y := h
    cases X with
    | nil => injection h with h1 h2; exact absurd h1 hc
    | cons d X =>
      injection h with h1 h2
      subst h1
      rcases List.append_eq_append_iff.1 h2 with ⟨q, e1, e2⟩ | ⟨q, e1, e2⟩
      · obtain ⟨l1, x, l2, X', Y', a1, a2, a3, a4⟩ := ih q Y e2
        refine ⟨y :: l1, x, l2, X', Y', by rw [a1]; rfl, a2, ?_, a4⟩
        rw [e1, a3]; simp [phd]
      · cases q with
        | nil =>
          simp at e1 e2
          obtain ⟨l1, x, l2, X', Y', a1, a2, a3, a4⟩ := ih [] Y (by rw [← e2]; rfl)
          cases a3
        | cons d2 q =>
          injection e2 with e3 e4
          subst e3
          exact ⟨[], y, r, X, q, rfl, e1, by simp [phd], e4⟩
theorem jnl_find {α : Type} (c : UInt8) (hc : c ≠ 40) (g : α → List UInt8) (l : List α) (X Y : List UInt8) (h : jnl c (l.map g) = X ++ 40 :: Y) :
    ∃ l1 x l2 X' Y', l = l1 ++ x :: l2 ∧ g x = X' ++ 40 :: Y' ∧ X = phd c (l1.map g) ++ X' ∧ Y = Y' ++ ptl c (l2.map g) := by
  cases l with
  | nil => simp [jnl] at h
  | cons y r =>
    have h2 : ptl c ((y :: r).map g) = (c :: X) ++ 40 :: Y := by
      show c :: jnl c ((y :: r).map g) = _
      rw [h]; rfl
    obtain ⟨l1, x, l2, X', Y', a1, a2, a3, a4⟩ := ptl_find c hc g (y :: r) (c :: X) Y h2
    injection a3 with _ a3
    exact ⟨l1, x, l2, X', Y', a1, a2, a3, a4⟩

def termV : List (List UInt8 × Nat) → List UInt8 × Nat
  | [p] => p
  | ps => (jnl 38 (ps.map asF), 1)
def wantV (ps : List (List UInt8 × Nat)) : List UInt8 × Nat := (jnl 124 (ps.map Prod.fst), (ps.map Prod.snd).sum)
theorem termV_two {ps : List (List UInt8 × Nat)} (h : 2 ≤ ps.length) : termV ps = (jnl 38 (ps.map asF), 1) := by
  cases ps with
  | nil => rfl
  | cons p r =>
    cases r with
    | nil => simp at h
    | cons q r => rfl

/-- A want: its text, its plain form, how many terms that has. -/
def TermP (F : List UInt8 → List UInt8 × Nat → Prop) (W : List UInt8) (p : List UInt8 × Nat) : Prop :=
  ∃ l : List (List UInt8 × (List UInt8 × Nat)), l ≠ [] ∧ (∀ x ∈ l, F x.1 x.2) ∧ W = jnl 38 (l.map Prod.fst) ∧ p = termV (l.map Prod.snd)
def WantP (F : List UInt8 → List UInt8 × Nat → Prop) (W : List UInt8) (p : List UInt8 × Nat) : Prop :=
  ∃ l : List (List UInt8 × (List UInt8 × Nat)), l ≠ [] ∧ (∀ x ∈ l, TermP F x.1 x.2) ∧ W = jnl 124 (l.map Prod.fst) ∧ p = wantV (l.map Prod.snd)
def LeafP (W : List UInt8) : Prop := ∀ c ∈ W, c ≠ 40 ∧ c ≠ 41 ∧ c ≠ 38 ∧ c ≠ 124
def LeafA (Kd : List UInt8 → Prop) (W : List UInt8) : Prop := LeafP W ∧ Kd W
def FacP (Kd : List UInt8 → Prop) : Nat → List UInt8 → List UInt8 × Nat → Prop
  | 0, W, p => LeafA Kd W ∧ p = (W, 1)
  | n + 1, W, p => (LeafA Kd W ∧ p = (W, 1)) ∨ ∃ M, W = 40 :: (M ++ [41]) ∧ WantP (FacP Kd n) M p
variable {Kd : List UInt8 → Prop}

theorem TermP.mono {F G : List UInt8 → List UInt8 × Nat → Prop} (h : ∀ W p, F W p → G W p) {W : List UInt8} {p : List UInt8 × Nat} (t : TermP F W p) : TermP G W p := by
  obtain ⟨l, h1, h2, h3, h4⟩ := t
  exact ⟨l, h1, fun x hx => h _ _ (h2 x hx), h3, h4⟩
theorem WantP.mono {F G : List UInt8 → List UInt8 × Nat → Prop} (h : ∀ W p, F W p → G W p) {W : List UInt8} {p : List UInt8 × Nat} (t : WantP F W p) : WantP G W p := by
  obtain ⟨l, h1, h2, h3, h4⟩ := t
  exact ⟨l, h1, fun x hx => (h2 x hx).mono h, h3, h4⟩
theorem FacP.up (n : Nat) : ∀ W p, FacP Kd n W p → FacP Kd (n + 1) W p := by
  induction n with
  | zero => intro W p h; exact Or.inl h
  | succ n ih =>
    intro W p h
    rcases h with h | ⟨M, h1, h2⟩
    · exact Or.inl h
    · exact Or.inr ⟨M, h1, h2.mono ih⟩
theorem TermP.want {F : List UInt8 → List UInt8 × Nat → Prop} {W : List UInt8} {p : List UInt8 × Nat} (t : TermP F W p) : WantP F W p :=
  ⟨[(W, p)], by simp, by intro x hx; simp at hx; subst hx; exact t, by simp [jnl, ptl], by simp [wantV, jnl, ptl]⟩

/-- A text that is passed from depth b on: no bracket is closed that was opened before it, nothing is counted. -/
def Pass (b : Int) (M : List UInt8) : Prop := ∀ (W R : List UInt8) (k : Nat), W.drop k = M ++ R →
  (∀ (f : Nat) (n : Int), 1 ≤ n → cloI W (f + M.length) k n = cloI W f (k + M.length) n) ∧
  (∀ (f : Nat) (n : Int) (m : Nat), b ≤ n → cutNI W 124 (f + M.length) k n m = cutNI W 124 f (k + M.length) n m)
theorem drop_more {W A R : List UInt8} {k : Nat} (h : W.drop k = A ++ R) : W.drop (k + A.length) = R := by
  rw [← List.drop_drop, h, List.drop_left]
theorem Pass.nil {b : Int} : Pass b [] := fun W R k h => ⟨fun f n _ => rfl, fun f n m _ => rfl⟩
theorem Pass.append {b : Int} {A B : List UInt8} (h : Pass b A) (h2 : Pass b B) : Pass b (A ++ B) := by
  intro W R k hd
  rw [List.append_assoc] at hd
  obtain ⟨a1, a2⟩ := h W _ k hd
  obtain ⟨b1, b2⟩ := h2 W _ _ (drop_more hd)
  constructor
  · intro f n hn
    rw [List.length_append, show f + (A.length + B.length) = (f + B.length) + A.length from by omega, a1 _ n hn, b1 _ n hn, Nat.add_assoc]
  · intro f n m hn
    rw [List.length_append, show f + (A.length + B.length) = (f + B.length) + A.length from by omega, a2 _ n m hn, b2 _ n m hn, Nat.add_assoc]
theorem u8ne {c : UInt8} {m : UInt8} (h : c ≠ m) : c.toNat ≠ m.toNat := fun q => h (UInt8.toNat_inj.1 q)
theorem Pass.byte {b : Int} {c : UInt8} (h1 : c ≠ 40) (h2 : c ≠ 41) (h3 : c ≠ 124 ∨ 1 ≤ b) : Pass b [c] := by
  intro W R k hd
  obtain ⟨hk, hb, _⟩ := byt_drop hd
  have n1 : byt W k ≠ 40 := by rw [hb]; exact u8ne h1
  have n2 : byt W k ≠ 41 := by rw [hb]; exact u8ne h2
  constructor
  · intro f n hn
    show cloI W (f + 1) k n = cloI W f (k + 1) n
    rw [cloI, if_neg n1, if_neg n2]
  · intro f n m hn
    show cutNI W 124 (f + 1) k n m = cutNI W 124 f (k + 1) n m
    refine cutNI_o n1 n2 ?_
    rintro ⟨q1, q2⟩
    rcases h3 with h3 | h3
    · rw [hb] at q1; exact u8ne h3 q1
    · omega
theorem Pass.up {M : List UInt8} (h : Pass 0 M) : Pass 1 M := fun W R k hd => ⟨(h W R k hd).1, fun f n m hn => (h W R k hd).2 f n m (by omega)⟩
theorem Pass.brk {M : List UInt8} (h : Pass 1 M) : Pass 0 (40 :: (M ++ [41])) := by
  intro W R k hd
  have hd0 : W.drop k = 40 :: (M ++ (41 :: R)) := by rw [hd]; simp
  obtain ⟨hk, hb, hd1⟩ := byt_drop hd0
  obtain ⟨a1, a2⟩ := h W _ _ hd1
  obtain ⟨hk2, hb2, hd2⟩ := byt_drop (drop_more hd1)
  have hb : byt W k = 40 := hb
  have hb2 : byt W (k + 1 + M.length) = 41 := hb2
  have hl : (40 :: (M ++ [41])).length = M.length + 2 := by simp
  rw [hl]
  constructor
  · intro f n hn
    rw [show f + (M.length + 2) = ((f + 1) + M.length) + 1 from by omega]
    rw [cloI, if_pos hb, a1 _ _ (by omega), cloI, if_neg (by omega), if_pos hb2, if_neg (by omega)]
    rw [show n + 1 - 1 = n from by omega, show k + 1 + M.length + 1 = k + (M.length + 2) from by omega]
  · intro f n m hn
    rw [show f + (M.length + 2) = ((f + 1) + M.length) + 1 from by omega]
    rw [cutNI_40 hb, a2 _ _ _ (by omega), cutNI_41 hb2]
    rw [show n + 1 - 1 = n from by omega, show k + 1 + M.length + 1 = k + (M.length + 2) from by omega]
theorem Pass.cons {b : Int} {c : UInt8} {M : List UInt8} (h : Pass b [c]) (h2 : Pass b M) : Pass b (c :: M) := h.append h2
theorem Pass.ptl {b : Int} {c : UInt8} (hc : Pass b [c]) (l : List (List UInt8)) (h : ∀ x ∈ l, Pass b x) : Pass b (ptl c l) := by
  induction l with
  | nil => exact Pass.nil
  | cons w r ih => exact hc.cons ((h w (by simp)).append (ih (fun x hx => h x (by simp [hx]))))
theorem Pass.jnl {b : Int} {c : UInt8} (hc : Pass b [c]) (l : List (List UInt8)) (h : ∀ x ∈ l, Pass b x) : Pass b (jnl c l) := by
  cases l with
  | nil => exact Pass.nil
  | cons w r => exact (h w (by simp)).append (Pass.ptl hc r (fun x hx => h x (by simp [hx])))
theorem Pass.leaf {W : List UInt8} (h : LeafP W) : Pass 0 W := by
  induction W with
  | nil => exact Pass.nil
  | cons c r ih =>
    have hc := h c (by simp)
    exact (Pass.byte hc.1 hc.2.1 (Or.inl hc.2.2.2)).cons (ih (fun x hx => h x (by simp [hx])))
theorem TermP.pass {F : List UInt8 → List UInt8 × Nat → Prop} (hF : ∀ W p, F W p → Pass 0 W) {W : List UInt8} {p : List UInt8 × Nat} (t : TermP F W p) : Pass 0 W := by
  obtain ⟨l, h1, h2, h3, h4⟩ := t
  rw [h3]
  refine Pass.jnl (Pass.byte (by decide) (by decide) (Or.inl (by decide))) _ ?_
  intro x hx
  obtain ⟨y, hy, rfl⟩ := List.mem_map.1 hx
  exact hF _ _ (h2 y hy)
theorem WantP.pass {F : List UInt8 → List UInt8 × Nat → Prop} (hF : ∀ W p, F W p → Pass 0 W) {W : List UInt8} {p : List UInt8 × Nat} (t : WantP F W p) : Pass 1 W := by
  obtain ⟨l, h1, h2, h3, h4⟩ := t
  rw [h3]
  refine Pass.jnl (Pass.byte (by decide) (by decide) (Or.inr (by decide))) _ ?_
  intro x hx
  obtain ⟨y, hy, rfl⟩ := List.mem_map.1 hx
  exact ((h2 y hy).pass hF).up
theorem FacP.pass (n : Nat) : ∀ W p, FacP Kd n W p → Pass 0 W := by
  induction n with
  | zero => intro W p h; exact Pass.leaf h.1.1
  | succ n ih =>
    intro W p h
    rcases h with h | ⟨M, h1, h2⟩
    · exact Pass.leaf h.1.1
    · rw [h1]; exact (h2.pass ih).brk

/-- How many terms. -/
theorem cutN_ptl (l : List (List UInt8)) : ∀ (W : List UInt8) (k m : Nat), (∀ x ∈ l, Pass 0 x) → W.drop k = ptl 124 l → cutNI W 124 (ptl 124 l).length k 0 m = m + 1 + l.length := by
  induction l with
  | nil => intro W k m _ _; rfl
  | cons w r ih =>
    intro W k m h hd
    have hd0 : W.drop k = 124 :: (w ++ ptl 124 r) := hd
    obtain ⟨hk, hb, hd1⟩ := byt_drop hd0
    have hb : byt W k = 124 := hb
    show cutNI W 124 (124 :: (w ++ ptl 124 r)).length k 0 m = _
    rw [List.length_cons, cutNI_c (by omega) (by omega) ⟨hb, rfl⟩, List.length_append, Nat.add_comm w.length]
    rw [(h w (by simp) W _ _ hd1).2 _ 0 _ (Int.le_refl _), ih W _ _ (fun x hx => h x (by simp [hx])) (drop_more hd1)]
    simp; omega
theorem cutN_jnl (l : List (List UInt8)) (hl : l ≠ []) (h : ∀ x ∈ l, Pass 0 x) : cutN (jnl 124 l) 124 = l.length := by
  cases l with
  | nil => exact absurd rfl hl
  | cons w r =>
    unfold cutN
    show cutNI (w ++ ptl 124 r) 124 (w ++ ptl 124 r).length 0 0 0 = _
    rw [List.length_append, Nat.add_comm w.length]
    rw [(h w (by simp) (w ++ ptl 124 r) _ 0 rfl).2 _ 0 _ (Int.le_refl _), cutN_ptl r _ _ _ (fun x hx => h x (by simp [hx])) (drop_more (R := ptl 124 r) (k := 0) rfl)]
    simp; omega

/-- A bracket that may go. -/
def sp (X M Z : List UInt8) : Prop := (X.getLast? ≠ some 38 ∧ Z.head? ≠ some 38) ∨ cutN M 124 = 1

theorem last_ne {A X : List UInt8} {c : UInt8} (hX : X = [] ∨ X.getLast? = some c) (hc : c ≠ 38) (hA : A.getLast? ≠ some 38) : (A ++ X).getLast? ≠ some 38 := by
  rcases hX with h | h
  · subst h; simpa using hA
  · rw [List.getLast?_append, h]; simpa using hc
theorem head_ne {Z B : List UInt8} {c : UInt8} (hZ : Z = [] ∨ Z.head? = some c) (hc : c ≠ 38) (hB : B.head? ≠ some 38) : (Z ++ B).head? ≠ some 38 := by
  rcases hZ with h | h
  · subst h; simpa using hB
  · rw [List.head?_append, h]; simpa using hc
theorem phd_or (c : UInt8) (a : List (List UInt8)) : phd c a = [] ∨ (phd c a).getLast? = some c := by
  cases a with
  | nil => exact Or.inl rfl
  | cons w r => exact Or.inr (phd_last c _ (by simp))
theorem ptl_or (c : UInt8) (a : List (List UInt8)) : ptl c a = [] ∨ (ptl c a).head? = some c := by
  cases a with
  | nil => exact Or.inl rfl
  | cons w r => exact Or.inr rfl

def StepF (Kd : List UInt8 → Prop) (n : Nat) : Prop := ∀ V p X Y, FacP Kd n V p → V = X ++ 40 :: Y →
  (X = [] ∧ ∃ M m, n = m + 1 ∧ Y = M ++ [41] ∧ WantP (FacP Kd m) M p) ∨
  (∃ M Z, Y = M ++ 41 :: Z ∧ Pass 1 M ∧ ∀ A B, sp (A ++ X) M (Z ++ B) → FacP Kd n (X ++ M ++ Z) p)
def StepQ (Kd : List UInt8 → Prop) (n : Nat) (P : List UInt8 → List UInt8 × Nat → Prop) : Prop := ∀ V p X Y, P V p → V = X ++ 40 :: Y →
  ∃ M Z, Y = M ++ 41 :: Z ∧ Pass 1 M ∧ ∀ A B, A.getLast? ≠ some 38 → B.head? ≠ some 38 → sp (A ++ X) M (Z ++ B) → WantP (FacP Kd n) (X ++ M ++ Z) p

theorem want_one {F : List UInt8 → List UInt8 × Nat → Prop} (hF : ∀ W p, F W p → Pass 0 W) {M : List UInt8} {p : List UInt8 × Nat} (h : WantP F M p) (h1 : cutN M 124 = 1) : TermP F M p := by
  obtain ⟨l, a1, a2, a3, a4⟩ := h
  have hp : ∀ x ∈ l.map Prod.fst, Pass 0 x := by
    intro x hx
    obtain ⟨y, hy, rfl⟩ := List.mem_map.1 hx
    exact (a2 y hy).pass hF
  have := cutN_jnl (l.map Prod.fst) (by simpa using a1) hp
  rw [← a3, h1] at this
  cases l with
  | nil => exact absurd rfl a1
  | cons x r =>
    cases r with
    | cons y z => simp at this
    | nil =>
      have hx := a2 x (by simp)
      have e1 : M = x.1 := by rw [a3]; simp [jnl, ptl]
      have e2 : p = x.2 := by rw [a4]; simp [wantV, jnl, ptl]
      rw [e1, e2]; exact hx

theorem step_T (n : Nat) (h : StepF Kd n) : StepQ Kd n (TermP (FacP Kd n)) := by
  intro V p X Y hT hV
  obtain ⟨l, a1, a2, a3, a4⟩ := hT
  obtain ⟨l1, x, l2, X', Y', b1, b2, b3, b4⟩ := jnl_find 38 (by decide) Prod.fst l X Y (by rw [← a3, hV])
  have hx := a2 x (by rw [b1]; simp)
  rcases h x.1 x.2 X' Y' hx b2 with ⟨c1, M, m, c2, c3, c4⟩ | ⟨M, Z, c1, c2, c3⟩
  · subst c1; subst c2
    refine ⟨M, ptl 38 (l2.map Prod.fst), by rw [b4, c3]; simp, c4.pass (FacP.pass m), ?_⟩
    intro A B hA hB hs
    rw [b3, List.append_nil] at hs ⊢
    by_cases h1 : cutN M 124 = 1
    · -- one term: its factors come in
      obtain ⟨lm, d1, d2, d3, d4⟩ := want_one (FacP.pass m) c4 h1
      refine TermP.want ⟨l1 ++ lm ++ l2, by simp [d1], ?_, ?_, ?_⟩
      · intro y hy
        simp only [List.mem_append] at hy
        rcases hy with (hy | hy) | hy
        · exact a2 y (by rw [b1]; simp [hy])
        · exact FacP.up m _ _ (d2 y hy)
        · exact a2 y (by rw [b1]; simp [hy])
      · rw [List.map_append, List.map_append, jnl_splice _ _ _ _ (by simpa using d1), ← d3]
      · rw [a4, b1]
        by_cases ho : l1 = [] ∧ l2 = []
        · obtain ⟨rfl, rfl⟩ := ho
          simp [termV, d4]
        · have hlen : 1 ≤ l1.length + l2.length := by
            cases l1 with
            | cons _ _ => simp; omega
            | nil =>
              cases l2 with
              | cons _ _ => simp
              | nil => exact absurd ⟨rfl, rfl⟩ ho
          have hm1 : 1 ≤ lm.length := by
            cases lm with
            | nil => exact absurd rfl d1
            | cons _ _ => simp
          rw [termV_two (by simp; omega), termV_two (by simp; omega)]
          have e : asF x.2 = jnl 38 ((lm.map Prod.snd).map asF) := by
            cases lm with
            | nil => exact absurd rfl d1
            | cons y r =>
              cases r with
              | nil => rw [d4]; simp [termV, jnl, ptl]
              | cons z r => rw [d4, termV_two (by simp)]; simp [asF]
          simp only [List.map_append, List.map_cons]
          rw [jnl_one, jnl_splice _ _ _ _ (by simpa using d1), e]
    · -- alone in its term: its terms come in
      have hs' : (A ++ phd 38 (l1.map Prod.fst)).getLast? ≠ some 38 ∧ (ptl 38 (l2.map Prod.fst) ++ B).head? ≠ some 38 := by
        rcases hs with hs | hs
        · exact hs
        · exact absurd hs h1
      have e1 : l1 = [] := by
        apply Classical.byContradiction; intro q
        apply hs'.1
        rw [List.getLast?_append, phd_last 38 (l1.map Prod.fst) (by simpa using q)]; rfl
      have e2 : l2 = [] := by
        apply Classical.byContradiction; intro q
        apply hs'.2
        rw [List.head?_append, ptl_first 38 (l2.map Prod.fst) (by simpa using q)]; rfl
      subst e1; subst e2
      have e3 : p = x.2 := by rw [a4, b1]; simp [termV]
      rw [e3]
      simp only [List.map_nil, phd, ptl, List.nil_append, List.append_nil]
      exact c4.mono (FacP.up m)
  · refine ⟨M, Z ++ ptl 38 (l2.map Prod.fst), by rw [b4, c1]; simp, c2, ?_⟩
    intro A B hA hB hs
    rw [b3] at hs ⊢
    have hf := c3 (A ++ phd 38 (l1.map Prod.fst)) (ptl 38 (l2.map Prod.fst) ++ B) (by simpa using hs)
    refine TermP.want ⟨l1 ++ (X' ++ M ++ Z, x.2) :: l2, by simp, ?_, ?_, ?_⟩
    · intro y hy
      simp only [List.mem_append, List.mem_cons] at hy
      rcases hy with hy | hy | hy
      · exact a2 y (by rw [b1]; simp [hy])
      · subst hy; exact hf
      · exact a2 y (by rw [b1]; simp [hy])
    · rw [List.map_append, List.map_cons, jnl_one]; simp
    · rw [a4, b1]; simp

theorem wantV_splice (a m b : List (List UInt8 × Nat)) (p : List UInt8 × Nat) (hm : m ≠ []) (hp : p = wantV m) : wantV (a ++ p :: b) = wantV (a ++ m ++ b) := by
  unfold wantV
  refine Prod.ext ?_ ?_
  · simp only [List.map_append, List.map_cons]
    rw [jnl_one, jnl_splice _ _ _ _ (by simpa using hm), hp]; rfl
  · simp only [List.map_append, List.map_cons, List.sum_append, List.sum_cons]
    rw [hp]
    show _ + ((m.map Prod.snd).sum + _) = _
    omega
theorem step_W (n : Nat) (h : StepQ Kd n (TermP (FacP Kd n))) : StepQ Kd n (WantP (FacP Kd n)) := by
  intro V p X Y hW hV
  obtain ⟨l, a1, a2, a3, a4⟩ := hW
  obtain ⟨l1, x, l2, X', Y', b1, b2, b3, b4⟩ := jnl_find 124 (by decide) Prod.fst l X Y (by rw [← a3, hV])
  obtain ⟨M, Z, c1, c2, c3⟩ := h x.1 x.2 X' Y' (a2 x (by rw [b1]; simp)) b2
  refine ⟨M, Z ++ ptl 124 (l2.map Prod.fst), by rw [b4, c1]; simp, c2, ?_⟩
  intro A B hA hB hs
  rw [b3] at hs ⊢
  obtain ⟨lm, d1, d2, d3, d4⟩ := c3 (A ++ phd 124 (l1.map Prod.fst)) (ptl 124 (l2.map Prod.fst) ++ B) (last_ne (phd_or _ _) (by decide) hA) (head_ne (ptl_or _ _) (by decide) hB) (by simpa using hs)
  refine ⟨l1 ++ lm ++ l2, by simp [d1], ?_, ?_, ?_⟩
  · intro y hy
    simp only [List.mem_append] at hy
    rcases hy with (hy | hy) | hy
    · exact a2 y (by rw [b1]; simp [hy])
    · exact d2 y hy
    · exact a2 y (by rw [b1]; simp [hy])
  · rw [List.map_append, List.map_append, jnl_splice _ _ _ _ (by simpa using d1), ← d3]; simp
  · rw [a4, b1, List.map_append, List.map_append, List.map_append, List.map_cons]
    exact wantV_splice _ _ _ _ (by simpa using d1) d4

theorem leaf_no40 {W X Y : List UInt8} (h : LeafP W) (e : W = X ++ 40 :: Y) : False := (h 40 (by rw [e]; simp)).1 rfl
theorem step_F (n : Nat) : StepF Kd n := by
  induction n with
  | zero => intro V p X Y h e; exact (leaf_no40 h.1.1 e).elim
  | succ n ih =>
    intro V p X Y h e
    rcases h with h | ⟨M0, h1, h2⟩
    · exact (leaf_no40 h.1.1 e).elim
    · rw [h1] at e
      cases X with
      | nil =>
        left
        injection e with _ e
        exact ⟨rfl, M0, n, rfl, e.symm, h2⟩
      | cons c X =>
        right
        injection e with e0 e
        subst e0
        rcases List.append_eq_append_iff.1 e with ⟨q, e1, e2⟩ | ⟨q, e1, e2⟩
        · exfalso
          cases q with
          | nil => injection e2 with e3 _; exact absurd e3 (by decide)
          | cons c q => injection e2 with _ e3; simp at e3
        · cases q with
          | nil => injection e2 with e3 _; exact absurd e3 (by decide)
          | cons c q =>
            injection e2 with e3 e4
            subst e3
            obtain ⟨M, Z, c1, c2, c3⟩ := step_W n (step_T n ih) M0 p X q h2 e1
            refine ⟨M, Z ++ [41], by rw [e4, c1]; simp, c2, ?_⟩
            intro A B hs
            refine Or.inr ⟨X ++ M ++ Z, by simp, ?_⟩
            exact c3 (A ++ [40]) (41 :: B) (by simp) (by simp) (by simpa using hs)
theorem step_want (n : Nat) : StepQ Kd n (WantP (FacP Kd n)) := step_W n (step_T n (step_F n))

/-- No bracket may go: the text is plain. -/
def NS (W : List UInt8) : Prop := ∀ X M Z, W = X ++ 40 :: (M ++ 41 :: Z) → Pass 1 M → ¬ sp X M Z
def PlainF (Kd : List UInt8 → Prop) (n : Nat) : Prop := ∀ V p, FacP Kd n V p → ∀ A B, NS (A ++ V ++ B) → asF p = V ∧ (A.getLast? ≠ some 38 → B.head? ≠ some 38 → p = (V, 1))
theorem plain_T (n : Nat) (h : PlainF Kd n) {V : List UInt8} {p : List UInt8 × Nat} (hT : TermP (FacP Kd n) V p) (A B : List UInt8) (hA : A.getLast? ≠ some 38) (hB : B.head? ≠ some 38) (hN : NS (A ++ V ++ B)) : p = (V, 1) := by
  obtain ⟨l, a1, a2, a3, a4⟩ := hT
  have key : ∀ x ∈ l, asF x.2 = x.1 := by
    intro x hx
    obtain ⟨l1, l2, e⟩ := List.append_of_mem hx
    refine (h x.1 x.2 (a2 x hx) (A ++ phd 38 (l1.map Prod.fst)) (ptl 38 (l2.map Prod.fst) ++ B) ?_).1
    have : A ++ phd 38 (l1.map Prod.fst) ++ x.1 ++ (ptl 38 (l2.map Prod.fst) ++ B) = A ++ V ++ B := by
      rw [a3, e, List.map_append, List.map_cons, jnl_one]; simp
    rw [this]; exact hN
  cases l with
  | nil => exact absurd rfl a1
  | cons x r =>
    cases r with
    | nil =>
      have e1 : V = x.1 := by rw [a3]; simp [jnl, ptl]
      have e2 : p = x.2 := by rw [a4]; simp [termV]
      rw [e1] at hN ⊢
      rw [e2]
      exact (h x.1 x.2 (a2 x (by simp)) A B hN).2 hA hB
    | cons y r =>
      rw [a4, termV_two (by simp), a3, List.map_map]
      congr 2
      exact List.map_congr_left key
theorem plain_W (n : Nat) (h : PlainF Kd n) {V : List UInt8} {p : List UInt8 × Nat} (hW : WantP (FacP Kd n) V p) (A B : List UInt8) (hA : A.getLast? ≠ some 38) (hB : B.head? ≠ some 38) (hN : NS (A ++ V ++ B)) : p = (V, cutN V 124) := by
  obtain ⟨l, a1, a2, a3, a4⟩ := hW
  have key : ∀ x ∈ l, x.2 = (x.1, 1) := by
    intro x hx
    obtain ⟨l1, l2, e⟩ := List.append_of_mem hx
    refine plain_T n h (a2 x hx) (A ++ phd 124 (l1.map Prod.fst)) (ptl 124 (l2.map Prod.fst) ++ B) (last_ne (phd_or _ _) (by decide) hA) (head_ne (ptl_or _ _) (by decide) hB) ?_
    have : A ++ phd 124 (l1.map Prod.fst) ++ x.1 ++ (ptl 124 (l2.map Prod.fst) ++ B) = A ++ V ++ B := by
      rw [a3, e, List.map_append, List.map_cons, jnl_one]; simp
    rw [this]; exact hN
  have hp : ∀ x ∈ l.map Prod.fst, Pass 0 x := by
    intro x hx
    obtain ⟨y, hy, rfl⟩ := List.mem_map.1 hx
    exact (a2 y hy).pass (FacP.pass n)
  have hc := cutN_jnl (l.map Prod.fst) (by simpa using a1) hp
  rw [← a3] at hc
  rw [a4, hc]
  unfold wantV
  refine Prod.ext ?_ ?_
  · rw [a3, List.map_map]
    show jnl 124 _ = jnl 124 _
    congr 1
    exact List.map_congr_left (fun x hx => by show x.2.1 = x.1; rw [key x hx])
  · show ((l.map Prod.snd).map Prod.snd).sum = (l.map Prod.fst).length
    rw [List.map_map, List.length_map]
    clear hc hp a4 a3 a2 a1 hN
    induction l with
    | nil => rfl
    | cons x r ih =>
      have := ih (fun y hy => key y (by simp [hy]))
      simp only [List.map_cons, List.sum_cons, List.length_cons, this]
      show x.2.2 + _ = _
      rw [key x (by simp)]; omega
theorem plain_F (n : Nat) : PlainF Kd n := by
  have leaf : ∀ V p, LeafP V ∧ p = (V, 1) → ∀ A B : List UInt8, asF p = V ∧ (A.getLast? ≠ some 38 → B.head? ≠ some 38 → p = (V, 1)) := by
    rintro V p ⟨h, rfl⟩ A B
    exact ⟨by simp [asF], fun _ _ => rfl⟩
  induction n with
  | zero => intro V p h A B hN; exact leaf V p ⟨h.1.1, h.2⟩ A B
  | succ n ih =>
    intro V p h A B hN
    rcases h with h | ⟨M, h1, h2⟩
    · exact leaf V p ⟨h.1.1, h.2⟩ A B
    · have hs := hN A M B (by rw [h1]; simp) (h2.pass (FacP.pass n))
      have hc : cutN M 124 ≠ 1 := fun q => hs (Or.inr q)
      have hp := plain_W n ih h2 (A ++ [40]) (41 :: B) (by simp) (by simp) (by rw [h1] at hN; simpa using hN)
      have hpos := (cutN_pos M 124).1
      refine ⟨?_, fun q1 q2 => absurd (Or.inl ⟨q1, q2⟩) hs⟩
      rw [hp, h1]
      unfold asF
      rw [if_pos (by show 1 < cutN M 124; omega)]
theorem plain_want (n : Nat) {V : List UInt8} {p : List UInt8 × Nat} (h : WantP (FacP Kd n) V p) (hN : NS V) : p.1 = V := by
  have := plain_W n (plain_F n) h [] [] (by simp) (by simp) (by simpa using hN)
  rw [this]


end Go.Proofs.Ytanknpmojblmcab
