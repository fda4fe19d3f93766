/-
  Codes and their values, as plain functions. Nothing of a program is imported.
-/
namespace Go.Proofs.Ytanknpmojblmcaa

def vAnd (a b : Nat) : Nat := if a = 2 ∨ b = 2 then 2 else if a = 1 ∧ b = 1 then 1 else 0
def vOr (a b : Nat) : Nat := if a = 1 ∨ b = 1 then 1 else if a = 2 ∧ b = 2 then 2 else 0
def knw (b : Bool) : Nat := if b then 1 else 2
/-- What the program tells of a job in the state s. -/
def vP (op : Nat) (s : Int) : Nat :=
  if s < 3 then 0 else if op = 1 then knw (s == 3) else if op = 2 then knw (s != 6) else if op = 3 then knw (s == 4 || s == 5) else 1
/-- What the document tells. -/
def vR (op : Nat) (s : Int) : Nat :=
  if s ≠ 3 ∧ s ≠ 4 ∧ s ≠ 5 ∧ s ≠ 6 then 0 else if op = 4 then 1 else if op = 1 ∧ s = 3 then 1 else if op = 2 ∧ s ≠ 6 then 1 else if op = 3 ∧ (s = 4 ∨ s = 5) then 1 else 2
theorem vP_vR {op : Nat} {s : Int} (h1 : 1 ≤ op) (h2 : op ≤ 4) (h3 : 0 ≤ s) (h4 : s ≤ 6) : vP op s = vR op s := by
  obtain ⟨n, rfl⟩ : ∃ n : Nat, s = n := ⟨s.toNat, by omega⟩
  have : n = 0 ∨ n = 1 ∨ n = 2 ∨ n = 3 ∨ n = 4 ∨ n = 5 ∨ n = 6 := by omega
  have : op = 1 ∨ op = 2 ∨ op = 3 ∨ op = 4 := by omega
  rcases this with rfl | rfl | rfl | rfl <;> rcases ‹n = 0 ∨ _› with rfl | rfl | rfl | rfl | rfl | rfl | rfl <;> rfl

def asksB (op : Nat) : Bool := decide (1 ≤ op) && decide (op ≤ 4)
/-- The program's machine: the stack (its top first), how many jobs are asked for, whether it broke. -/
def layM (v : Nat) (m : List Nat × Nat × Bool) : List Nat × Nat × Bool := if 24 ≤ m.1.length then (m.1, m.2.1, true) else (v :: m.1, m.2.1, m.2.2)
def joinV (op a b : Nat) : Nat := if op = 5 then vAnd a b else vOr a b
def joinM (op : Nat) (m : List Nat × Nat × Bool) : List Nat × Nat × Bool :=
  match m.1 with
  | b :: a :: S => layM (joinV op a b) (S, m.2.1, m.2.2)
  | _ => (m.1, m.2.1, true)
def plainM (op : Nat) (m : List Nat × Nat × Bool) : List Nat × Nat × Bool :=
  if op = 0 then layM 1 m else if op = 5 ∨ op = 6 then joinM op m else (m.1, m.2.1, true)
def askA (j a : Nat) : Nat := if a ≤ j then j + 1 else a
def askV (ns : List Int) (op j : Nat) : Nat := if j < ns.length then vP op (ns.getD j 0) else 0
def askM (ns : List Int) (op j : Nat) (m : List Nat × Nat × Bool) : List Nat × Nat × Bool :=
  if 24 ≤ j then (m.1, m.2.1, true) else layM (askV ns op j) (m.1, askA j m.2.1, m.2.2)
def runM (ns : List Int) : List UInt8 → List Nat × Nat × Bool → List Nat × Nat × Bool
  | [], m => m
  | op :: R, m => if m.2.2 then m else if asksB op.toNat then (match R with
      | [] => (m.1, m.2.1, true)
      | j :: R' => runM ns R' (askM ns op.toNat j.toNat m)) else runM ns R (plainM op.toNat m)
theorem runM_broken (ns : List Int) (L : List UInt8) (S : List Nat) (a : Nat) : runM ns L (S, a, true) = (S, a, true) := by
  cases L with
  | nil => rfl
  | cons op R => rw [runM.eq_def]; rfl
theorem runM_plain (ns : List Int) (op : UInt8) (R : List UInt8) (S : List Nat) (a : Nat) (h : ¬ asksB op.toNat = true) : runM ns (op :: R) (S, a, false) = runM ns R (plainM op.toNat (S, a, false)) := by
  rw [runM.eq_def]; simp [h]
theorem runM_ask (ns : List Int) (op j : UInt8) (R : List UInt8) (S : List Nat) (a : Nat) (h : asksB op.toNat = true) : runM ns (op :: j :: R) (S, a, false) = runM ns R (askM ns op.toNat j.toNat (S, a, false)) := by
  rw [runM.eq_def]; simp [h]
theorem runM_lack (ns : List Int) (op : UInt8) (S : List Nat) (a : Nat) (h : asksB op.toNat = true) : runM ns [op] (S, a, false) = (S, a, true) := by
  rw [runM.eq_def]; simp [h]

def areS (ns : List Int) : Bool := decide (ns.length ≤ 24) && ns.all (fun s => decide (0 ≤ s) && decide (s ≤ 6))
def runE (L : List UInt8) (ns : List Int) : Nat × Nat :=
  if 8000 < L.length then (0, 9)
  else if (runM ns L ([], 0, false)).2.2 = true ∨ (runM ns L ([], 0, false)).1.length ≠ 1 then (0, 9)
  else if ns.length < (runM ns L ([], 0, false)).2.1 ∨ areS ns = false then (0, 10)
  else ((runM ns L ([], 0, false)).1.getD 0 0, 0)

/-- The document: the operations of some bytes. -/
def opsR : List UInt8 → Option (List (Nat × Nat))
  | [] => some []
  | op :: R => if 6 < op.toNat then none else if asksB op.toNat then (match R with
      | [] => none
      | j :: R' => if 24 ≤ j.toNat then none else (opsR R').map ((op.toNat, j.toNat) :: ·)) else (opsR R).map ((op.toNat, 0) :: ·)
/-- How high the stack is behind them; none where it may not be so. -/
def stepH (op n : Nat) : Nat := if op = 5 ∨ op = 6 then n - 1 else n + 1
def finR : List (Nat × Nat) → Nat → Option Nat
  | [], n => some n
  | x :: R, n => if stepH x.1 n < 1 ∨ 24 < stepH x.1 n then none else finR R (stepH x.1 n)
/-- The stack behind some operations. -/
def opS (f : Nat → Nat → Nat) (x : Nat × Nat) (S : List Nat) : List Nat :=
  if x.1 = 0 then 1 :: S else if x.1 = 5 ∨ x.1 = 6 then (match S with
    | b :: a :: S' => joinV x.1 a b :: S'
    | _ => S) else f x.1 x.2 :: S
def stkR (f : Nat → Nat → Nat) : List (Nat × Nat) → List Nat → List Nat
  | [], S => S
  | x :: R, S => stkR f R (opS f x S)
def askd : List (Nat × Nat) → Nat → Nat
  | [], a => a
  | x :: R, a => askd R (if asksB x.1 then askA x.2 a else a)
def docV (ns : List Int) (op j : Nat) : Nat := vR op (ns.getD j 0)
def jobsOK (l : List (Nat × Nat)) (n : Nat) : Bool := l.all fun x => !(asksB x.1) || decide (x.2 < n)
def refE (L : List UInt8) (ns : List Int) : Nat × Nat :=
  if 8000 < L.length then (0, 9)
  else match opsR L with
    | none => (0, 9)
    | some l => if finR l 0 ≠ some 1 then (0, 9) else if areS ns = false then (0, 10) else if jobsOK l ns.length = false then (0, 10) else ((stkR (docV ns) l []).getD 0 0, 0)

theorem stkR_append (f : Nat → Nat → Nat) (l k : List (Nat × Nat)) (S : List Nat) : stkR f (l ++ k) S = stkR f k (stkR f l S) := by
  induction l generalizing S with
  | nil => rfl
  | cons x r ih => exact ih _

/-- The machine goes on as the document's heights do. -/
theorem opS_len (f : Nat → Nat → Nat) (x : Nat × Nat) (S : List Nat) (h : ¬ (stepH x.1 S.length < 1 ∨ 24 < stepH x.1 S.length)) : (opS f x S).length = stepH x.1 S.length := by
  unfold opS
  unfold stepH at *
  by_cases h0 : x.1 = 0
  · rw [if_pos h0, if_neg (by omega)]; rfl
  · rw [if_neg h0]
    by_cases h5 : x.1 = 5 ∨ x.1 = 6
    · rw [if_pos h5] at h ⊢
      rw [if_pos h5]
      match S, h with
      | [], h => simp at h
      | [a], h => simp at h
      | b :: a :: S', h => simp
    · rw [if_neg h5, if_neg h5]; rfl
theorem stkR_len (f : Nat → Nat → Nat) : ∀ (l : List (Nat × Nat)) (S : List Nat) (h : Nat), finR l S.length = some h → (stkR f l S).length = h
  | [], S, h, e => by simpa [finR, stkR] using e
  | x :: R, S, h, e => by
    unfold finR at e
    split at e
    · cases e
    · rename_i hn
      have q := opS_len f x S hn
      exact stkR_len f R (opS f x S) h (by rw [q]; exact e)

theorem one_step (ns : List Int) (op j : Nat) (S : List Nat) (a : Nat) (hop : op ≤ 6) (hj : asksB op = true → j < 24) (hS : S.length ≤ 24) :
    (if asksB op then askM ns op j (S, a, false) else plainM op (S, a, false)) =
    (if stepH op S.length < 1 ∨ 24 < stepH op S.length then ((if asksB op then askM ns op j (S, a, false) else plainM op (S, a, false)).1, (if asksB op then askM ns op j (S, a, false) else plainM op (S, a, false)).2.1, true)
     else (opS (askV ns) (op, j) S, (if asksB op then askA j a else a), false)) := by
  have ho : op = 0 ∨ op = 1 ∨ op = 2 ∨ op = 3 ∨ op = 4 ∨ op = 5 ∨ op = 6 := by omega
  by_cases hb : op = 5 ∨ op = 6
  · have hab : asksB op = false := by rcases hb with rfl | rfl <;> rfl
    have h0 : ¬ op = 0 := by omega
    simp only [hab, plainM, stepH, opS, if_pos hb, if_neg h0, joinM, layM]
    match S, hS with
    | [], _ => simp
    | [c], _ => simp
    | c :: d :: S', hS =>
      simp at hS
      have e1 : ¬ 24 ≤ S'.length := by omega
      have e2 : ¬ 24 < S'.length + 1 := by omega
      simp [e1, e2]
  · by_cases h0 : op = 0
    · subst h0
      have hab : asksB 0 = false := rfl
      simp only [hab, plainM, stepH, opS, layM]
      by_cases hl : 24 ≤ S.length
      · have e2 : 24 < S.length + 1 := by omega
        simp [hl, e2]
      · have e2 : ¬ 24 < S.length + 1 := by omega
        simp [hl, e2]
    · have hab : asksB op = true := by simp [asksB]; omega
      have e0 : ¬ 24 ≤ j := by have := hj hab; omega
      simp only [hab, askM, stepH, opS, layM, if_neg h0, if_neg hb, if_neg e0]
      by_cases hl : 24 ≤ S.length
      · have e2 : 24 < S.length + 1 := by omega
        simp [hl, e2]
      · have e2 : ¬ 24 < S.length + 1 := by omega
        simp [hl, e2]

theorem run_none (ns : List Int) : ∀ (L : List UInt8) (m : List Nat × Nat × Bool), opsR L = none → (runM ns L m).2.2 = true
  | [], m, h => by simp [opsR] at h
  | op :: R, m, h => by
    unfold opsR at h
    unfold runM
    by_cases hm : m.2.2 = true
    · rw [if_pos hm]; exact hm
    rw [if_neg hm]
    by_cases hop : 6 < op.toNat
    · have hab : asksB op.toNat = false := by simp [asksB]; omega
      have e : plainM op.toNat m = (m.1, m.2.1, true) := by
        unfold plainM; rw [if_neg (by omega), if_neg (by omega)]
      rw [hab, if_neg (by simp), e, runM_broken]
    · rw [if_neg hop] at h
      by_cases hab : asksB op.toNat = true
      · rw [if_pos hab] at h ⊢
        match R, h with
        | [], h => rfl
        | j :: R', h =>
          dsimp only at h ⊢
          by_cases hj : 24 ≤ j.toNat
          · have e : askM ns op.toNat j.toNat m = (m.1, m.2.1, true) := by unfold askM; rw [if_pos hj]
            rw [e, runM_broken]
          · rw [if_neg hj] at h
            exact run_none ns R' _ (by simpa using h)
      · rw [if_neg hab] at h ⊢
        exact run_none ns R _ (by simpa using h)

theorem run_some (ns : List Int) : ∀ (L : List UInt8) (l : List (Nat × Nat)) (S : List Nat) (a : Nat), S.length ≤ 24 → opsR L = some l →
    (finR l S.length = none → (runM ns L (S, a, false)).2.2 = true) ∧
    (∀ h, finR l S.length = some h → runM ns L (S, a, false) = (stkR (askV ns) l S, askd l a, false))
  | [], l, S, a, hS, h => by
    simp [opsR] at h; subst h
    simp [finR, runM, stkR, askd]
  | op :: R, l, S, a, hS, h => by
    unfold opsR at h
    by_cases hop : 6 < op.toNat
    · rw [if_pos hop] at h; cases h
    rw [if_neg hop] at h
    have key : ∀ (R' : List UInt8) (l' : List (Nat × Nat)) (j : Nat), (asksB op.toNat = true → j < 24) → R'.length ≤ R.length → opsR R' = some l' → l = (op.toNat, j) :: l' →
        runM ns (op :: R) (S, a, false) = runM ns R' (if asksB op.toNat then askM ns op.toNat j (S, a, false) else plainM op.toNat (S, a, false)) →
        (finR l S.length = none → (runM ns (op :: R) (S, a, false)).2.2 = true) ∧
        (∀ h, finR l S.length = some h → runM ns (op :: R) (S, a, false) = (stkR (askV ns) l S, askd l a, false)) := by
      intro R' l' j hj hR hl' hl hrun
      subst hl
      have st := one_step ns op.toNat j S a (by omega) hj hS
      rw [hrun]
      by_cases hc : stepH op.toNat S.length < 1 ∨ 24 < stepH op.toNat S.length
      · rw [if_pos hc] at st
        constructor
        · intro _
          rw [st, runM_broken]
        · intro h hf
          unfold finR at hf
          rw [if_pos hc] at hf; cases hf
      · rw [if_neg hc] at st
        have hlen := opS_len (askV ns) (op.toNat, j) S hc
        have ih := run_some ns R' l' (opS (askV ns) (op.toNat, j) S) (if asksB op.toNat then askA j a else a) (by rw [hlen]; show stepH op.toNat S.length ≤ 24; omega) hl'
        rw [hlen] at ih
        have ef : finR ((op.toNat, j) :: l') S.length = finR l' (stepH op.toNat S.length) := by
          rw [finR]; exact if_neg hc
        rw [ef, st]
        exact ih
    by_cases hab : asksB op.toNat = true
    · rw [if_pos hab] at h
      match R, h, key with
      | [], h, key => cases h
      | j :: R', h, key =>
        dsimp only at h
        by_cases hj : 24 ≤ j.toNat
        · rw [if_pos hj] at h; cases h
        · rw [if_neg hj] at h
          cases hq : opsR R' with
          | none => rw [hq] at h; cases h
          | some l' =>
            rw [hq] at h
            simp at h
            exact key R' l' j.toNat (fun _ => by omega) (by simp) hq h.symm (by rw [runM_ask _ _ _ _ _ _ hab, if_pos hab])
    · rw [if_neg hab] at h
      cases hq : opsR R with
      | none => rw [hq] at h; cases h
      | some l' =>
        rw [hq] at h
        simp at h
        exact key R l' 0 (fun _ => by omega) (Nat.le_refl _) hq h.symm (by rw [runM_plain _ _ _ _ _ hab, if_neg hab])
termination_by L => L.length
decreasing_by all_goals (simp only [List.length_cons]; omega)

theorem askd_le (l : List (Nat × Nat)) : ∀ (a n : Nat), a ≤ n → (askd l a ≤ n ↔ jobsOK l n = true) := by
  induction l with
  | nil => intro a n h; simp [askd, jobsOK, h]
  | cons x r ih =>
    intro a n h
    unfold askd
    have hm : ∀ (a : Nat), a ≤ askd r a := by
      clear ih h
      induction r with
      | nil => intro a; exact Nat.le_refl _
      | cons y q ih =>
        intro a
        unfold askd
        refine Nat.le_trans ?_ (ih _)
        unfold askA; split
        · split <;> omega
        · omega
    by_cases hx : asksB x.1 = true
    · rw [if_pos hx]
      by_cases hj : x.2 < n
      · rw [ih _ n (by unfold askA; split <;> omega)]
        simp [jobsOK, hx, hj]
      · constructor
        · intro h2
          have := hm (askA x.2 a)
          have h3 : x.2 + 1 ≤ askA x.2 a := by unfold askA; split <;> omega
          omega
        · intro h2
          simp [jobsOK, hx, hj] at h2
    · rw [if_neg hx, ih a n h]
      simp only [Bool.not_eq_true] at hx
      simp [jobsOK, hx]

theorem stk_same (ns : List Int) (hS : areS ns = true) : ∀ (l : List (Nat × Nat)) (S : List Nat), (∀ x ∈ l, x.1 ≤ 6) → jobsOK l ns.length = true → stkR (askV ns) l S = stkR (docV ns) l S := by
  intro l
  induction l with
  | nil => intro S _ _; rfl
  | cons x r ih =>
    intro S h6 hj
    simp only [jobsOK, List.all_cons, Bool.and_eq_true] at hj
    unfold stkR
    have e : opS (askV ns) x S = opS (docV ns) x S := by
      unfold opS
      by_cases h0 : x.1 = 0
      · rw [if_pos h0, if_pos h0]
      · rw [if_neg h0, if_neg h0]
        by_cases hb : x.1 = 5 ∨ x.1 = 6
        · rw [if_pos hb, if_pos hb]
        · rw [if_neg hb, if_neg hb]
          have h6' := h6 x (by simp)
          have ha : asksB x.1 = true := by simp [asksB]; omega
          have hlt : x.2 < ns.length := by have := hj.1; rw [ha] at this; simpa using this
          have hs : 0 ≤ ns.getD x.2 0 ∧ ns.getD x.2 0 ≤ 6 := by
            simp [areS] at hS
            have := hS.2 (ns[x.2]) (List.getElem_mem hlt)
            simpa [List.getD_eq_getElem?_getD, List.getElem?_eq_getElem hlt] using this
          congr 1
          unfold askV docV
          rw [if_pos hlt]
          exact vP_vR (by omega) (by omega) hs.1 hs.2
    rw [e]
    exact ih _ (fun y hy => h6 y (by simp [hy])) hj.2

theorem ops_six : ∀ (L : List UInt8) (l : List (Nat × Nat)), opsR L = some l → ∀ x ∈ l, x.1 ≤ 6
  | [], l, h => by simp [opsR] at h; subst h; simp
  | op :: R, l, h => by
    unfold opsR at h
    by_cases hop : 6 < op.toNat
    · rw [if_pos hop] at h; cases h
    rw [if_neg hop] at h
    by_cases hab : asksB op.toNat = true
    · rw [if_pos hab] at h
      match R, h with
      | [], h => cases h
      | j :: R', h =>
        dsimp only at h
        by_cases hj : 24 ≤ j.toNat
        · rw [if_pos hj] at h; cases h
        · rw [if_neg hj] at h
          cases hq : opsR R' with
          | none => rw [hq] at h; cases h
          | some l' =>
            rw [hq] at h
            simp at h
            subst h
            intro x hx
            rcases List.mem_cons.1 hx with rfl | hx
            · show op.toNat ≤ 6; omega
            · exact ops_six R' l' hq x hx
    · rw [if_neg hab] at h
      cases hq : opsR R with
      | none => rw [hq] at h; cases h
      | some l' =>
        rw [hq] at h
        simp at h
        subst h
        intro x hx
        rcases List.mem_cons.1 hx with rfl | hx
        · show op.toNat ≤ 6; omega
        · exact ops_six R l' hq x hx

/-- The program's Exec is the document's. -/
theorem runE_refE (L : List UInt8) (ns : List Int) : runE L ns = refE L ns := by
  unfold runE refE
  by_cases hL : 8000 < L.length
  · rw [if_pos hL, if_pos hL]
  rw [if_neg hL, if_neg hL]
  cases ho : opsR L with
  | none => rw [if_pos (Or.inl (run_none ns L _ ho))]
  | some l =>
    obtain ⟨h1, h2⟩ := run_some ns L l [] 0 (by simp) ho
    dsimp only
    cases hf : finR l 0 with
    | none => rw [if_pos (Or.inl (h1 hf)), if_pos (by simp)]
    | some h =>
      have e := h2 h hf
      have hl := stkR_len (askV ns) l [] h hf
      rw [e]
      dsimp only
      by_cases h3 : h = 1
      · subst h3
        rw [if_neg (show ¬ (false = true ∨ (stkR (askV ns) l []).length ≠ 1) by simp [hl]), if_neg (show ¬ (some 1 ≠ some 1) by simp)]
        have hk := askd_le l 0 ns.length (by omega)
        by_cases hA : areS ns = true
        · have hA' : ¬ areS ns = false := by simp [hA]
          rw [if_neg hA']
          by_cases hj : jobsOK l ns.length = true
          · have q := hk.2 hj
            have hj' : ¬ jobsOK l ns.length = false := by simp [hj]
            rw [if_neg (show ¬ (ns.length < askd l 0 ∨ areS ns = false) by simp [hA]; omega), if_neg hj', stk_same ns hA l [] (ops_six L l ho) hj]
          · have q : ¬ askd l 0 ≤ ns.length := fun z => hj (hk.1 z)
            rw [if_pos (Or.inl (by omega)), if_pos (by simpa using hj)]
        · rw [if_pos (Or.inr (by simpa using hA)), if_pos (by simpa using hA)]
      · rw [if_pos (Or.inr (by rw [hl]; exact h3)), if_pos (by simpa using h3)]

end Go.Proofs.Ytanknpmojblmcaa
