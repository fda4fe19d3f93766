/-
  BkX BkY RgN EnA EnB EnC DcA DcB DcC DcD DcE DcF XRunC DcG DcH, put together.
-/
import Derived.Test.YtanknpmojblmcaaGreatDoorGc1
import Derived.Test.YtanknpmojblmcaaGreatDoorGa2
import Derived.Test.YtanknpmojblmcaaGreatDoorGe3
import Derived.Deep.DeepCutAuto
/-
  A world: the queue, room for a job.
-/
set_option linter.unusedSimpArgs false
set_option linter.unusedVariables false
namespace Go.Proofs.YtanknpmojblmcaaGreatDoor

/-- How often a job stands among the first k of the queue. -/
def tmsQ (qs : List Nat) (id : Nat) : Nat → Nat
  | 0 => 0
  | k + 1 => tmsQ qs id k + (if qs.getD k 0 = id then 1 else 0)
def allQ (qs : List Nat) : Nat → Nat
  | 0 => 0
  | n + 1 => allQ qs n + tmsQ qs n qs.length
theorem tmsQ_no {qs : List Nat} {id : Nat} : ∀ k, k ≤ qs.length → (∀ j, j < k → qs.getD j 0 ≠ id) → tmsQ qs id k = 0 := by
  intro k
  induction k with
  | zero => intro _ _; rfl
  | succ k ih =>
    intro hk h
    unfold tmsQ
    rw [ih (by omega) (fun j hj => h j (by omega)), if_neg (h k (by omega))]
theorem tmsQ_mem {qs : List Nat} (hn : qs.Nodup) (id : Nat) : tmsQ qs id qs.length = if id ∈ qs then 1 else 0 := by
  have hp := List.pairwise_iff_getElem.mp hn
  have inj : ∀ i j, i < qs.length → j < qs.length → qs.getD i 0 = qs.getD j 0 → i = j := by
    intro i j hi hj he
    rw [show qs.getD i 0 = qs[i] from by simp [hi], show qs.getD j 0 = qs[j] from by simp [hj]] at he
    rcases Nat.lt_trichotomy i j with q | q | q
    · exact absurd he (hp i j hi hj q)
    · exact q
    · exact absurd he.symm (hp j i hj hi q)
  split
  · rename_i h
    obtain ⟨i, hi, rfl⟩ := List.getElem_of_mem h
    have hg : qs.getD i 0 = qs[i] := by simp [hi]
    have : ∀ k, k ≤ qs.length → tmsQ qs qs[i] k = if i < k then 1 else 0 := by
      intro k
      induction k with
      | zero => intro _; rfl
      | succ k ih =>
        intro hk
        unfold tmsQ
        rw [ih (by omega)]
        by_cases e : i = k
        · subst e; rw [if_neg (by omega), if_pos hg, if_pos (by omega)]
        · have : qs.getD k 0 ≠ qs[i] := fun q => e (inj i k hi (by omega) (by rw [hg]; exact q.symm))
          rw [if_neg this]
          by_cases q : i < k
          · rw [if_pos q, if_pos (by omega)]
          · rw [if_neg q, if_neg (by omega)]
    rw [this _ (Nat.le_refl _), if_pos hi]
  · rename_i h
    refine tmsQ_no _ (Nat.le_refl _) ?_
    intro j hj e
    apply h
    rw [← e]
    exact qs_mem hj
def sumK (qs : List Nat) (k : Nat) : Nat → Nat
  | 0 => 0
  | n + 1 => sumK qs k n + tmsQ qs n k
theorem sumK_succ (qs : List Nat) (k : Nat) : ∀ n, sumK qs (k + 1) n = sumK qs k n + (if qs.getD k 0 < n then 1 else 0) := by
  intro n
  induction n with
  | zero => rfl
  | succ n ih =>
    unfold sumK
    rw [ih]
    rw [show tmsQ qs n (k + 1) = tmsQ qs n k + (if qs.getD k 0 = n then 1 else 0) from rfl]
    by_cases e : qs.getD k 0 = n
    · rw [if_pos e, if_neg (by omega), if_pos (by omega)]; omega
    · rw [if_neg e]
      by_cases q : qs.getD k 0 < n
      · rw [if_pos q, if_pos (by omega)]; omega
      · rw [if_neg q, if_neg (by omega)]; omega
theorem allQ_sum (qs : List Nat) : ∀ n, allQ qs n = sumK qs qs.length n := by
  intro n
  induction n with
  | zero => rfl
  | succ n ih => unfold allQ sumK; rw [ih]
theorem allQ_len {qs : List Nat} {L : Nat} (h : ∀ i ∈ qs, i < L) : allQ qs L = qs.length := by
  rw [allQ_sum]
  have : ∀ k, k ≤ qs.length → sumK qs k L = k := by
    intro k
    induction k with
    | zero =>
      intro _
      have : ∀ n, sumK qs 0 n = 0 := by
        intro n
        induction n with
        | zero => rfl
        | succ n ih => unfold sumK; rw [ih]; rfl
      exact this L
    | succ k ih =>
      intro hk
      rw [sumK_succ, ih (by omega), if_pos (h _ (qs_mem (by omega)))]
  exact this _ (Nat.le_refl _)
/-- How many nodes others want, as load tells. -/
def othN (js : List PJ) (id : Nat) (m : Int) : Nat → Nat
  | 0 => 0
  | n + 1 => othN js id m n + (if n ≠ id ∧ wantsAt (js.getD n pj0) m = true then (js.getD n pj0).nd else 0)
theorem oth_want (js : List PJ) (id : Nat) (m : Int) : ∀ n, wantN js id m n = (js.getD id pj0).nd + othN js id m n := by
  intro n
  induction n with
  | zero => rfl
  | succ n ih => unfold wantN othN; rw [ih]; omega
theorem Stl.room {p : PS} (h : Stl p) {i : Nat} (hi : i < p.js.length) (hs : (p.js.getD i pj0).st = 1) : fitsF p.js p.nodes i (p.js.getD i pj0).sa = true := by
  rw [fits_iff]
  intro m h1 h2
  have h3 := load_tot p.js i m hi
  have h4 := (h.f.t i hi).s1 hs
  have h5 := h.f.c m (by omega)
  rw [wnA_of (by unfold hasS; rw [hs]; rfl) h1 (by unfold overJ; exact h2)] at h3
  omega
theorem Stl.soon {p : PS} (h : Stl p) {i : Nat} (hi : i < p.js.length) : (p.js.getD i pj0).sa ≤ p.now + 288 := by
  have := h.ok.n.sa _ (getD_in hi)
  have := h.ok.n.sum
  omega
end Go.Proofs.YtanknpmojblmcaaGreatDoor

/-
  What a tree is worth, and its code.
-/
set_option linter.unusedSimpArgs false
set_option linter.unusedVariables false
namespace Go.Proofs.YtanknpmojblmcaaGreatDoor

/-- A code that lays one value. -/
def PushC (ns : List Int) (d : Nat) (C : List UInt8) (v : Nat) : Prop :=
  ∀ (R : List UInt8) (S : List Nat) (a : Nat), S.length + d ≤ 24 → a ≤ ns.length → ∃ a', a' ≤ ns.length ∧ runM ns (C ++ R) (S, a, false) = runM ns R (v :: S, a', false)
theorem PushC.up {ns : List Int} {d e : Nat} {C : List UInt8} {v : Nat} (h : PushC ns d C v) (hd : d ≤ e) : PushC ns e C v := fun R S a h1 h2 => h R S a (by omega) h2
theorem layM_ok {v : Nat} {S : List Nat} {a : Nat} (h : S.length + 1 ≤ 24) : layM v (S, a, false) = (v :: S, a, false) := by
  unfold layM
  rw [if_neg (by simp; omega)]
theorem push_true (ns : List Int) : PushC ns 1 [0] 1 := by
  intro R S a h1 h2
  refine ⟨a, h2, ?_⟩
  show runM ns (0 :: R) (S, a, false) = _
  rw [runM_plain ns 0 R S a (by decide)]
  unfold plainM
  rw [if_pos (by decide), layM_ok h1]
theorem push_ask {ns : List Int} {op j : Nat} (h1 : 1 ≤ op) (h4 : op ≤ 4) (hj : j < ns.length) (hn : ns.length ≤ 24) : PushC ns 1 [UInt8.ofNat op, UInt8.ofNat j] (askV ns op j) := by
  intro R S a q1 q2
  have e1 : (UInt8.ofNat op).toNat = op := by simp; omega
  have e2 : (UInt8.ofNat j).toNat = j := by simp; omega
  have hk : asksB (UInt8.ofNat op).toNat = true := by rw [e1]; unfold asksB; simp; omega
  refine ⟨askA j a, ?_, ?_⟩
  · unfold askA; split <;> omega
  · show runM ns (UInt8.ofNat op :: UInt8.ofNat j :: R) (S, a, false) = _
    rw [runM_ask ns _ _ R S a hk, e1, e2]
    unfold askM
    rw [if_neg (by omega), layM_ok q1]
theorem push_join {ns : List Int} {d e op : Nat} {C B : List UInt8} {v u : Nat} (ho : op = 5 ∨ op = 6) (h : PushC ns d C v) (k : PushC ns e B u) (hd : 1 ≤ d) : PushC ns (max d (e + 1)) (C ++ (B ++ [UInt8.ofNat op])) (joinV op v u) := by
  intro R S a q1 q2
  obtain ⟨a1, b1, c1⟩ := h (B ++ [UInt8.ofNat op] ++ R) S a (by omega) q2
  obtain ⟨a2, b2, c2⟩ := k (UInt8.ofNat op :: R) (v :: S) a1 (by simp; omega) b1
  refine ⟨a2, b2, ?_⟩
  rw [show C ++ (B ++ [UInt8.ofNat op]) ++ R = C ++ (B ++ [UInt8.ofNat op] ++ R) from by simp, c1, show B ++ [UInt8.ofNat op] ++ R = B ++ (UInt8.ofNat op :: R) from by simp, c2]
  have e1 : (UInt8.ofNat op).toNat = op := by rcases ho with rfl | rfl <;> rfl
  rw [runM_plain ns _ R _ a2 (by rw [e1]; rcases ho with rfl | rfl <;> decide), e1]
  unfold plainM
  rw [if_neg (by omega), if_pos ho]
  unfold joinM
  dsimp only
  rw [layM_ok (by omega)]
theorem vAnd_one {x : Nat} (h : x ≤ 2) : vAnd 1 x = x := by
  have : x = 0 ∨ x = 1 ∨ x = 2 := by omega
  rcases this with rfl | rfl | rfl <;> decide
theorem vAnd_assoc {x y z : Nat} (h1 : x ≤ 2) (h2 : y ≤ 2) (h3 : z ≤ 2) : vAnd (vAnd x y) z = vAnd x (vAnd y z) := by
  have a : x = 0 ∨ x = 1 ∨ x = 2 := by omega
  have b : y = 0 ∨ y = 1 ∨ y = 2 := by omega
  have c : z = 0 ∨ z = 1 ∨ z = 2 := by omega
  rcases a with rfl | rfl | rfl <;> rcases b with rfl | rfl | rfl <;> rcases c with rfl | rfl | rfl <;> decide
theorem vAnd_l2 (x y : Nat) : vAnd x y ≤ 2 := by unfold vAnd; split <;> (try split) <;> omega
theorem vOr_l2 (x y : Nat) : vOr x y ≤ 2 := by unfold vOr; split <;> (try split) <;> omega
theorem vP_l2 (op : Nat) (s : Int) : vP op s ≤ 2 := by
  have k : ∀ b, knw b ≤ 2 := by intro b; cases b <;> decide
  unfold vP
  split
  · omega
  split
  · exact k _
  split
  · exact k _
  split
  · exact k _
  · omega
theorem askV_le (ns : List Int) (op j : Nat) : askV ns op j ≤ 2 := by
  unfold askV
  split
  · exact vP_l2 _ _
  · omega
/-- All jobs of a list. -/
def allV (ns : List Int) (op : Nat) : List Nat → Nat
  | [] => 1
  | j :: r => vAnd (askV ns op j) (allV ns op r)
theorem allV_le (ns : List Int) (op : Nat) (js : List Nat) : allV ns op js ≤ 2 := by
  cases js with
  | nil => show 1 ≤ 2; omega
  | cons j r => exact vAnd_l2 _ _
theorem vAnd_x1 {x : Nat} (h : x ≤ 2) : vAnd x 1 = x := by
  have : x = 0 ∨ x = 1 ∨ x = 2 := by omega
  rcases this with rfl | rfl | rfl <;> decide
theorem allV_snoc (ns : List Int) (op : Nat) (l : List Nat) (j : Nat) : allV ns op (l ++ [j]) = vAnd (allV ns op l) (askV ns op j) := by
  induction l with
  | nil => show vAnd (askV ns op j) 1 = vAnd 1 (askV ns op j); rw [vAnd_x1 (askV_le _ _ _), vAnd_one (askV_le _ _ _)]
  | cons x r ih =>
    show vAnd (askV ns op x) (allV ns op (r ++ [j])) = vAnd (vAnd (askV ns op x) (allV ns op r)) (askV ns op j)
    rw [ih, vAnd_assoc (askV_le _ _ _) (allV_le _ _ _) (askV_le _ _ _)]
theorem push_askN {ns : List Int} {op : Nat} {js : List Nat} (h1 : 1 ≤ op) (h4 : op ≤ 4) (hj : ∀ j ∈ js, j < ns.length) (hn : ns.length ≤ 24) : ∀ n, 0 < n → n ≤ js.length → PushC ns 2 (askN op js n) (allV ns op (js.take n)) := by
  intro n
  induction n with
  | zero => intro h; omega
  | succ n ih =>
    intro _ hl
    have hg : js.getD n 0 = js[n] := by simp [show n < js.length by omega]
    have hm : js.getD n 0 < ns.length := by rw [hg]; exact hj _ (List.getElem_mem (by omega))
    have et : js.take (n + 1) = js.take n ++ [js.getD n 0] := by
      rw [List.take_add_one, List.getElem?_eq_getElem (by omega), hg]; rfl
    have hp := push_ask h1 h4 hm hn
    unfold askN
    rw [et, allV_snoc]
    by_cases e : n = 0
    · subst e
      simp only [askN, List.take_zero, allV, if_pos, List.nil_append, List.append_nil]
      rw [vAnd_one (askV_le _ _ _)]
      exact hp.up (by omega)
    · rw [if_neg e]
      have := push_join (op := 5) (Or.inl rfl) (ih (by omega) (by omega)) hp (by omega)
      rw [show askN op js n ++ [UInt8.ofNat op, UInt8.ofNat (js.getD n 0)] ++ [5] = askN op js n ++ ([UInt8.ofNat op, UInt8.ofNat (js.getD n 0)] ++ [UInt8.ofNat 5]) from by simp]
      exact this.up (by omega)
theorem push_all {ns : List Int} {op : Nat} {js : List Nat} (h1 : 1 ≤ op) (h4 : op ≤ 4) (hj : ∀ j ∈ js, j < ns.length) (hn : ns.length ≤ 24) : PushC ns 2 (askAll op js) (allV ns op js) := by
  unfold askAll
  split
  · rename_i h; subst h; exact (push_true ns).up (by omega)
  · rename_i h
    have : js.length ≠ 0 := fun e => h (List.eq_nil_of_length_eq_zero e)
    have := push_askN h1 h4 hj hn js.length (by omega) (Nat.le_refl _)
    rwa [List.take_length] at this

/-- The code of a step, its place left aside. -/
def stepX (before own : List GV) (nm : List UInt8) (y : SX) : List UInt8 :=
  if y.1 = 5 ∨ y.1 = 6 then [UInt8.ofNat y.1] else if y.1 = 4 then askAll 4 (earlG before nm) else askAll y.1 (jobsG (meantG before own y.2.1) y.2.2.1 y.2.2.2)
theorem stepX_eq (before own : List GV) (nm : List UInt8) (y : Stp) : stepX before own nm (nps y) = stepC before own nm y := rfl
def codeX (before own : List GV) (nm : List UInt8) (S : List SX) : List UInt8 := (S.map (stepX before own nm)).flatten
theorem codeX_app (before own : List GV) (nm : List UInt8) (a b : List SX) : codeX before own nm (a ++ b) = codeX before own nm a ++ codeX before own nm b := by simp [codeX]
theorem codeN_X (before own : List GV) (h : HV) : ∀ n, n ≤ h.want.length → codeN before own h n = codeX before own h.name ((h.want.take n).map nps) := by
  intro n
  induction n with
  | zero => intro _; rfl
  | succ n ih =>
    intro hn
    unfold codeN
    rw [ih (by omega), List.take_add_one, List.getElem?_eq_getElem (show n < h.want.length by omega), List.map_append, codeX_app]
    congr 1
    have : h.want.getD n (stp 0) = h.want[n] := by simp [show n < h.want.length by omega]
    rw [this]
    simp [codeX, stepX_eq]
theorem codeF_X (before own : List GV) (h : HV) : codeF before own h = if h.want.map nps = [] then [0] else codeX before own h.name (h.want.map nps) := by
  unfold codeF
  by_cases e : h.want = []
  · rw [if_pos e, if_pos (by rw [e]; rfl)]
  · rw [if_neg e, if_neg (by simpa using e), codeN_X _ _ _ _ (Nat.le_refl _), List.take_length]

/-- The value of a tree. -/
def valT (before own : List GV) (nm : List UInt8) (ns : List Int) : WT → Nat
  | .sg => allV ns 4 (earlG before nm)
  | .rf k r o => allV ns (k + 1) (jobsG (meantG before own r) o.isSome (o.getD 0))
  | .an s t => vAnd (valT before own nm ns s) (valT before own nm ns t)
  | .or s t => vOr (valT before own nm ns s) (valT before own nm ns t)
theorem valT_le (before own : List GV) (nm : List UInt8) (ns : List Int) (t : WT) : valT before own nm ns t ≤ 2 := by
  cases t with
  | sg => exact allV_le _ _ _
  | rf k r o => exact allV_le _ _ _
  | an s t => exact vAnd_l2 _ _
  | or s t => exact vOr_l2 _ _
/-- The values of its factors. -/
def fvT (before own : List GV) (nm : List UInt8) (ns : List Int) : WT → List Nat
  | .an s t => valT before own nm ns s :: fvT before own nm ns t
  | t => [valT before own nm ns t]
def andL : Nat → List Nat → Nat
  | v, [] => v
  | v, x :: r => andL (vAnd v x) r
theorem andL_fv (before own : List GV) (nm : List UInt8) (ns : List Int) : ∀ (t : WT) (v : Nat), v ≤ 2 → andL v (fvT before own nm ns t) = vAnd v (valT before own nm ns t) := by
  intro t
  induction t with
  | sg => intro v _; rfl
  | rf k r o => intro v _; rfl
  | or s t _ _ => intro v _; rfl
  | an s t _ iht =>
    intro v hv
    show andL (vAnd v (valT before own nm ns s)) (fvT before own nm ns t) = vAnd v (vAnd (valT before own nm ns s) (valT before own nm ns t))
    rw [iht _ (vAnd_l2 _ _), vAnd_assoc hv (valT_le _ _ _ _ _) (valT_le _ _ _ _ _)]
/-- The jobs that a tree asks for are there. -/
def InT (before own : List GV) (nm : List UInt8) (n : Nat) : WT → Prop
  | .sg => ∀ j ∈ earlG before nm, j < n
  | .rf k r o => k < 3 ∧ ∀ j ∈ jobsG (meantG before own r) o.isSome (o.getD 0), j < n
  | .an s t => InT before own nm n s ∧ InT before own nm n t
  | .or s t => InT before own nm n s ∧ InT before own nm n t
theorem push_tree {before own : List GV} {nm : List UInt8} {ns : List Int} (hn : ns.length ≤ 24) : ∀ (t : WT), InT before own nm ns.length t → PushC ns (2 + dpW t) (codeX before own nm (stW t)) (valT before own nm ns t) ∧
    (∀ (C : List UInt8) (v d : Nat), 1 ≤ d → v ≤ 2 → PushC ns d C v → PushC ns (max d (3 + dpW t)) (C ++ codeX before own nm (tlS 5 (fcW t))) (andL v (fvT before own nm ns t))) := by
  have one : ∀ (F : List SX) (x e : Nat), PushC ns e (codeX before own nm F) x → ∀ (C : List UInt8) (v d : Nat), 1 ≤ d → PushC ns d C v → PushC ns (max d (e + 1)) (C ++ codeX before own nm (tlS 5 [F])) (andL v [x]) := by
    intro F x e h C v d hd hC
    have := push_join (op := 5) (Or.inl rfl) hC h hd
    have e2 : codeX before own nm (tlS 5 [F]) = codeX before own nm F ++ [UInt8.ofNat 5] := by
      show codeX before own nm (F ++ jS 5 :: tlS 5 []) = _
      rw [codeX_app]; rfl
    rw [e2]
    exact this
  intro t
  induction t with
  | sg =>
    intro h
    have a : PushC ns 2 (codeX before own nm (stW .sg)) (valT before own nm ns .sg) := by
      have e : codeX before own nm (stW .sg) = askAll 4 (earlG before nm) := by simp [stW, codeX, stepX, jS]
      rw [e]; exact push_all (by omega) (by omega) h hn
    refine ⟨a.up (by simp [dpW]), ?_⟩
    intro C v d hd hv hC
    have := one _ _ _ a C v d hd hC
    have e : fcW .sg = [stW .sg] := by simp [fcW, stW]
    rw [e]
    exact this.up (by simp [dpW])
  | rf k r o =>
    intro h
    have a : PushC ns 2 (codeX before own nm (stW (.rf k r o))) (valT before own nm ns (.rf k r o)) := by
      have e : codeX before own nm (stW (.rf k r o)) = askAll (k + 1) (jobsG (meantG before own r) o.isSome (o.getD 0)) := by
        have h1 : ¬ (k + 1 = 5 ∨ k + 1 = 6) := by have := h.1; omega
        have h2 : ¬ k + 1 = 4 := by have := h.1; omega
        simp only [stW, codeX, List.map_cons, List.map_nil, List.flatten_cons, List.flatten_nil, List.append_nil, stepX]
        rw [if_neg h1, if_neg h2]
      rw [e]; exact push_all (by omega) (by have := h.1; omega) h.2 hn
    refine ⟨a.up (by simp [dpW]), ?_⟩
    intro C v d hd hv hC
    have := one _ _ _ a C v d hd hC
    have e : fcW (.rf k r o) = [stW (.rf k r o)] := by simp [fcW, stW]
    rw [e]
    exact this.up (by simp [dpW])
  | or s t ihs iht =>
    intro h
    obtain ⟨a1, _⟩ := ihs h.1
    obtain ⟨b1, _⟩ := iht h.2
    have a : PushC ns (3 + max (dpW s) (dpW t)) (codeX before own nm (stW (.or s t))) (valT before own nm ns (.or s t)) := by
      have := push_join (op := 6) (Or.inr rfl) a1 b1 (by omega)
      have e : codeX before own nm (stW (.or s t)) = codeX before own nm (stW s) ++ (codeX before own nm (stW t) ++ [UInt8.ofNat 6]) := by
        simp only [stW]; rw [codeX_app, codeX_app]; rfl
      rw [e]
      exact this.up (by omega)
    refine ⟨a.up (by simp only [dpW]; omega), ?_⟩
    intro C v d hd hv hC
    have := one _ _ _ a C v d hd hC
    have e : fcW (.or s t) = [stW (.or s t)] := by simp [fcW, stW]
    rw [e]
    exact this.up (by simp only [dpW]; omega)
  | an s t ihs iht =>
    intro h
    obtain ⟨a1, _⟩ := ihs h.1
    obtain ⟨_, b2⟩ := iht h.2
    constructor
    · have := b2 (codeX before own nm (stW s)) (valT before own nm ns s) (2 + dpW s) (by omega) (valT_le _ _ _ _ _) a1
      rw [andL_fv _ _ _ _ _ _ (valT_le _ _ _ _ _)] at this
      simp only [stW]
      rw [codeX_app]
      exact this.up (by simp only [dpW]; omega)
    · intro C v d hd hv hC
      have c1 := push_join (op := 5) (Or.inl rfl) hC a1 hd
      have c2 := b2 _ _ _ (by omega) (vAnd_l2 _ _) c1
      simp only [fcW, tlS]
      have e : codeX before own nm (stW s ++ jS 5 :: tlS 5 (fcW t)) = (codeX before own nm (stW s) ++ [UInt8.ofNat 5]) ++ codeX before own nm (tlS 5 (fcW t)) := by
        rw [codeX_app]
        have : codeX before own nm (jS 5 :: tlS 5 (fcW t)) = [UInt8.ofNat 5] ++ codeX before own nm (tlS 5 (fcW t)) := by
          rw [show jS 5 :: tlS 5 (fcW t) = [jS 5] ++ tlS 5 (fcW t) from rfl, codeX_app]; rfl
        rw [this, List.append_assoc]
      rw [e, ← List.append_assoc]
      exact c2.up (by simp only [dpW]; omega)
/-- What a code that lays one value is run to. -/
theorem push_run {ns : List Int} {d : Nat} {C : List UInt8} {v : Nat} (h : PushC ns d C v) (hd : d ≤ 24) (hl : C.length ≤ 8000) (hs : areS ns = true) : runE C ns = (v, 0) := by
  obtain ⟨a, ha, e⟩ := h [] [] 0 (by simpa using hd) (Nat.zero_le _)
  rw [List.append_nil] at e
  have e : runM ns C ([], 0, false) = (v :: [], a, false) := by rw [e]; rfl
  unfold runE
  rw [if_neg (by omega), e]
  rw [if_neg (by simp), if_neg (by simp [hs]; omega)]
  rfl
end Go.Proofs.YtanknpmojblmcaaGreatDoor

/-
  A system that settles while one job may run, and while jobs that may not any more give up.
-/
set_option linter.unusedSimpArgs false
set_option linter.unusedVariables false
namespace Go.Proofs.YtanknpmojblmcaaGreatDoor

theorem areS_st {js : List PJ} (h1 : js.length ≤ 24) (h2 : ∀ j ∈ js, j.st ≤ 6) : areS (stI js) = true := by
  unfold areS stI
  simp only [List.length_map, List.all_map, Bool.and_eq_true, decide_eq_true_eq]
  refine ⟨h1, ?_⟩
  rw [List.all_eq_true]
  intro j hj
  have := h2 j hj
  simp
  omega
/-- The code that asks nothing, and the one that asks of one job. -/
theorem run_true {ns : List Int} (h : areS ns = true) : (runE [0] ns).1 = 1 := by
  have e : runM ns [0] ([], 0, false) = ([1], 0, false) := rfl
  unfold runE
  rw [e, h]
  simp
theorem run_ask {ns : List Int} (h : areS ns = true) {op k : Nat} (h1 : 1 ≤ op) (h3 : op ≤ 3) (hk : k < ns.length) (hn : ns.length ≤ 24) : (runE [UInt8.ofNat op, UInt8.ofNat k] ns).1 = vP op (ns.getD k 0) := by
  have eo : (UInt8.ofNat op).toNat = op := by simp; omega
  have ek : (UInt8.ofNat k).toNat = k := by simp; omega
  have ha : asksB (UInt8.ofNat op).toNat = true := by rw [eo]; simp [asksB]; omega
  have e : runM ns [UInt8.ofNat op, UInt8.ofNat k] ([], 0, false) = ([vP op (ns.getD k 0)], k + 1, false) := by
    rw [runM_ask _ _ _ _ _ _ ha, eo, ek]
    unfold askM
    rw [if_neg (by omega)]
    unfold layM
    simp only [List.length_nil]
    rw [if_neg (by omega)]
    unfold askV askA
    rw [if_pos hk, if_pos (Nat.zero_le _)]
    rfl
  unfold runE
  rw [e, h]
  simp [show ¬ ns.length < k + 1 by omega]

/-- Nobody gives up. -/
theorem giveN_id {now : Int} {js : List PJ} (h : ∀ i, i < js.length → heldB js i 2 = false) : ∀ n, n ≤ js.length → giveN now js n = (js, false) := by
  intro n
  induction n with
  | zero => intro _; rfl
  | succ n ih =>
    intro hn
    unfold giveN
    rw [ih (by omega), if_neg (by rw [h n (by omega)]; decide)]
theorem giveUp_id {p : PS} (h : ∀ i, i < p.js.length → heldB p.js i 2 = false) : giveUpF p = p := by
  unfold giveUpF giveF
  rw [giveN_id h _ (Nat.le_refl _)]
  rfl
/-- What may become of jobs while some give up. -/
def Gave (now : Int) (js X : List PJ) : Prop := X.length = js.length ∧ ∀ i, X.getD i pj0 = js.getD i pj0 ∨ ((js.getD i pj0).st = 0 ∧ X.getD i pj0 = (((js.getD i pj0).toSt 6).toEn now))
theorem Gave.refl (now : Int) (js : List PJ) : Gave now js js := ⟨rfl, fun i => Or.inl rfl⟩
theorem giveN_gave (now : Int) (js : List PJ) : ∀ n, n ≤ js.length → Gave now js (giveN now js n).1 ∧ ((giveN now js n).2 = false → (giveN now js n).1 = js ∧ ∀ i, i < n → heldB js i 2 = false) := by
  intro n
  induction n with
  | zero => intro _; exact ⟨Gave.refl _ _, fun _ => ⟨rfl, fun i hi => by omega⟩⟩
  | succ n ih =>
    intro hn
    obtain ⟨⟨h1, h2⟩, h3⟩ := ih (by omega)
    have hi : n < (giveN now js n).1.length := by omega
    unfold giveN
    split
    · rename_i hc
      refine ⟨⟨by simpa using h1, ?_⟩, fun e => by simp at e⟩
      intro i
      dsimp only
      rw [getD_set hi]
      split
      · rename_i e
        subst e
        have h0 : ((giveN now js i).1.getD i pj0).st = 0 := by
          unfold heldB at hc
          simp at hc
          simpa using hc.1
        rcases h2 i with q | ⟨q1, q2⟩
        · right
          rw [q] at h0
          exact ⟨h0, by rw [q]⟩
        · rw [q2] at h0
          simp [PJ.toSt, PJ.toEn] at h0
      · exact h2 i
    · rename_i hc
      refine ⟨⟨h1, h2⟩, fun e => ?_⟩
      obtain ⟨q1, q2⟩ := h3 e
      refine ⟨q1, fun i hi' => ?_⟩
      by_cases e2 : i = n
      · subst e2
        rw [q1] at hc
        simpa using hc
      · exact q2 i (by omega)
theorem Gave.trans {now : Int} {a b c : List PJ} (h : Gave now a b) (k : Gave now b c) : Gave now a c := by
  refine ⟨k.1.trans h.1, fun i => ?_⟩
  rcases k.2 i with q | ⟨q1, q2⟩
  · rw [q]; exact h.2 i
  · rcases h.2 i with r | ⟨r1, r2⟩
    · right; rw [r] at q1 q2; exact ⟨q1, q2⟩
    · rw [r2] at q1; simp [PJ.toSt, PJ.toEn] at q1
theorem giveF_spec (now : Int) : ∀ (k : Nat) (js : List PJ), cntH js < k → Gave now js (giveF now k js) ∧ ∀ i, i < js.length → heldB (giveF now k js) i 2 = false := by
  intro k
  induction k with
  | zero => intro js h; omega
  | succ k ih =>
    intro js h
    obtain ⟨h1, h2⟩ := giveN_gave now js js.length (Nat.le_refl _)
    have h3 := giveN_cnt now js js.length (Nat.le_refl _)
    unfold giveF
    split
    · rename_i hc
      obtain ⟨i1, i2⟩ := ih (giveN now js js.length).1 (by have := h3.2 hc; omega)
      exact ⟨h1.trans i1, fun i hi => i2 i (by rw [h1.1]; exact hi)⟩
    · rename_i hc
      obtain ⟨q1, q2⟩ := h2 (by simpa using hc)
      exact ⟨h1, fun i hi => by rw [q1]; exact q2 i hi⟩
theorem giveUp_spec (p : PS) : Gave p.now p.js (giveUpF p).js ∧ ∀ i, i < p.js.length → heldB (giveUpF p).js i 2 = false := giveF_spec p.now _ p.js (Nat.lt_succ_self _)

theorem moveUp_nil {p : PS} (h : p.qs = []) : moveUpF p = p := by
  unfold moveUpF moveF
  rw [h]
  rfl
theorem all_now {now : Int} {js : List PJ} (h : ∀ i, hasS (js.getD i pj0) = false) : ∀ n, allN now js n = now := by
  intro n
  induction n with
  | zero => rfl
  | succ n ih =>
    unfold allN
    rw [if_neg (by rw [h n]; simp), ih]
theorem early_now {now : Int} {js : List PJ} (h : ∀ i, hasS (js.getD i pj0) = false) (nodes id : Nat) : earlF js nodes id now = now := by
  unfold earlF allF
  rw [all_now h]
  simp [earlN]
/-- Nobody is queued. -/
theorem queN_id {p : PS} (h : ∀ i, i < p.js.length → heldB p.js i 1 = false) : ∀ n, n ≤ p.js.length → queN p n = (p.js, p.qs) := by
  intro n
  induction n with
  | zero => intro _; rfl
  | succ n ih =>
    intro hn
    unfold queN
    rw [ih (by omega), if_neg (by rw [h n (by omega)]; decide)]
theorem settle_none {p : PS} (hq : p.qs = []) (h : ∀ i, i < p.js.length → heldB (giveUpF p).js i 1 = false) : settleF p = giveUpF p := by
  have hl : (giveUpF p).js.length = p.js.length := (giveUp_spec p).1.1
  have hq' : (giveUpF p).qs = [] := hq
  unfold settleF
  rw [moveUp_nil hq']
  have hqn := queN_id (p := giveUpF p) (by rw [hl]; exact h) (giveUpF p).js.length (Nat.le_refl _)
  have e : queueUpF (giveUpF p) = giveUpF p := by
    unfold queueUpF
    rw [hqn]
  rw [e]
  unfold beginF
  rw [hq']
  simp only [List.length_nil, begN]
  cases hp : giveUpF p with
  | mk gs nodes now js qs => rw [hp] at hq'; simp at hq'; subst hq'; rfl

def runJ (j : PJ) (now : Int) : PJ := ((j.toSt 1).toSa now).toSt 2
/-- One job may run, and no other. -/
theorem settle_one {p : PS} (hq : p.qs = []) (hs : ∀ i, hasS (p.js.getD i pj0) = false) (h2 : ∀ i, i < p.js.length → heldB p.js i 2 = false) (m : Nat) (hm : m < p.js.length) (hm1 : heldB p.js m 1 = true)
    (ho : ∀ i, i < p.js.length → i ≠ m → heldB p.js i 1 = false ∧ heldB (p.js.set m (((p.js.getD m pj0).toSt 1).toSa p.now)) i 1 = false) : settleF p = { p with js := p.js.set m (runJ (p.js.getD m pj0) p.now) } := by
  have hqn : ∀ n, n ≤ p.js.length → queN p n = if m < n then (p.js.set m (((p.js.getD m pj0).toSt 1).toSa p.now), [m]) else (p.js, []) := by
    intro n
    induction n with
    | zero => intro _; unfold queN; rw [if_neg (by omega), hq]
    | succ n ih =>
      intro hn
      unfold queN
      rw [ih (by omega)]
      by_cases e : m < n
      · rw [if_pos e, if_neg (by rw [(ho n (by omega) (by omega)).2]; decide), if_pos (show m < n + 1 by omega)]
      · rw [if_neg e]
        by_cases e2 : m = n
        · subst e2
          rw [if_pos hm1, if_pos (show m < m + 1 by omega)]
          dsimp only
          rw [early_now hs]
          rfl
        · rw [if_neg (by rw [(ho n (by omega) (by omega)).1]; decide), if_neg (show ¬ m < n + 1 by omega)]
  unfold settleF
  rw [giveUp_id h2, moveUp_nil hq]
  have e : queueUpF p = { p with js := p.js.set m (((p.js.getD m pj0).toSt 1).toSa p.now), qs := [m] } := by
    unfold queueUpF
    rw [hqn p.js.length (Nat.le_refl _), if_pos hm]
  rw [e]
  unfold beginF
  dsimp only
  have hb : begN p.now [m] (p.js.set m (((p.js.getD m pj0).toSt 1).toSa p.now)) 1 = ((p.js.set m (((p.js.getD m pj0).toSt 1).toSa p.now)).set m ((((p.js.set m (((p.js.getD m pj0).toSt 1).toSa p.now)).getD m pj0)).toSt 2), []) := by
    unfold begN
    have e1 : ([m] : List Nat).getD 0 0 = m := rfl
    simp only [begN, e1]
    rw [if_pos (by rw [getD_set hm, if_pos rfl]; rfl)]
  simp only [List.length_singleton]
  rw [hb]
  dsimp only
  rw [List.set_set, getD_set hm, if_pos rfl]
  cases p with
  | mk gs nodes now js qs => dsimp only at hq; subst hq; rfl
end Go.Proofs.YtanknpmojblmcaaGreatDoor

/-
  What the codes of the book's heads are worth, and how long.
-/
set_option linter.unusedSimpArgs false
set_option linter.unusedVariables false
namespace Go.Proofs.YtanknpmojblmcaaGreatDoor

theorem vAnd_zero {a b : Nat} (ha : a ≤ 2) (hb : b ≤ 2) (h : vAnd a b = 0) : a = 0 ∨ b = 0 := by
  unfold vAnd at h
  split at h
  · omega
  split at h
  · omega
  · omega
theorem vOr_zero {a b : Nat} (ha : a ≤ 2) (hb : b ≤ 2) (h : vOr a b = 0) : a = 0 ∨ b = 0 := by
  unfold vOr at h
  split at h
  · omega
  split at h
  · omega
  · omega
theorem vAnd_mo {a b a' b' : Nat} (h : a ≠ 0 → a' = a) (k : b ≠ 0 → b' = b) (q : vAnd a b ≠ 0) : vAnd a' b' = vAnd a b := by
  unfold vAnd at *
  by_cases e : a = 2 ∨ b = 2
  · rw [if_pos e, if_pos]
    rcases e with e | e
    · left; rw [h (by omega)]; exact e
    · right; rw [k (by omega)]; exact e
  · rw [if_neg e] at q ⊢
    by_cases f : a = 1 ∧ b = 1
    · rw [if_pos f, h (by omega), k (by omega), if_neg e, if_pos f]
    · rw [if_neg f] at q; exact absurd rfl q
theorem vOr_mo {a b a' b' : Nat} (h : a ≠ 0 → a' = a) (k : b ≠ 0 → b' = b) (q : vOr a b ≠ 0) : vOr a' b' = vOr a b := by
  unfold vOr at *
  by_cases e : a = 1 ∨ b = 1
  · rw [if_pos e, if_pos]
    rcases e with e | e
    · left; rw [h (by omega)]; exact e
    · right; rw [k (by omega)]; exact e
  · rw [if_neg e] at q ⊢
    by_cases f : a = 2 ∧ b = 2
    · rw [if_pos f, h (by omega), k (by omega), if_neg e, if_pos f]
    · rw [if_neg f] at q; exact absurd rfl q
theorem knw_pos (b : Bool) : knw b ≠ 0 := by cases b <;> decide
theorem askV_zero {ns : List Int} {op j : Nat} (hj : j < ns.length) (h : askV ns op j = 0) : ns.getD j 0 < 3 := by
  unfold askV at h
  rw [if_pos hj] at h
  unfold vP at h
  split at h
  · assumption
  split at h
  · exact absurd h (knw_pos _)
  split at h
  · exact absurd h (knw_pos _)
  split at h
  · exact absurd h (knw_pos _)
  · omega
theorem askV_mo {ns ns' : List Int} {op j : Nat} (hj : j < ns.length) (hj' : j < ns'.length) (k : 3 ≤ ns.getD j 0 → ns'.getD j 0 = ns.getD j 0) (h : askV ns op j ≠ 0) : askV ns' op j = askV ns op j := by
  unfold askV at *
  rw [if_pos hj] at *
  rw [if_pos hj']
  have : ¬ ns.getD j 0 < 3 := by
    intro q
    apply h
    unfold vP
    rw [if_pos q]
  rw [k (by omega)]
theorem allV_wt {ns : List Int} {op n : Nat} (hn : n ≤ ns.length) : ∀ (l : List Nat), (∀ j ∈ l, j < n) → allV ns op l = 0 → ∃ j, j < n ∧ ns.getD j 0 < 3 := by
  intro l
  induction l with
  | nil => intro _ h; simp [allV] at h
  | cons x r ih =>
    intro hl h
    rcases vAnd_zero (askV_le _ _ _) (allV_le _ _ _) h with q | q
    · have hx := hl x (by simp)
      exact ⟨x, hx, askV_zero (by omega) q⟩
    · exact ih (fun j hj => hl j (by simp [hj])) q
theorem allV_mo {ns ns' : List Int} {op n : Nat} (hn : n ≤ ns.length) (hn' : n ≤ ns'.length) (k : ∀ j, j < n → 3 ≤ ns.getD j 0 → ns'.getD j 0 = ns.getD j 0) : ∀ (l : List Nat), (∀ j ∈ l, j < n) → allV ns op l ≠ 0 → allV ns' op l = allV ns op l := by
  intro l
  induction l with
  | nil => intro _ _; rfl
  | cons x r ih =>
    intro hl h
    have hx := hl x (by simp)
    exact vAnd_mo (fun q => askV_mo (by omega) (by omega) (k x hx) q) (fun q => ih (fun j hj => hl j (by simp [hj])) q) h
theorem valT_wt {before own : List GV} {nm : List UInt8} {ns : List Int} {n : Nat} (hn : n ≤ ns.length) : ∀ (t : WT), InT before own nm n t → valT before own nm ns t = 0 → ∃ j, j < n ∧ ns.getD j 0 < 3 := by
  intro t
  induction t with
  | sg => intro h q; exact allV_wt hn _ h q
  | rf k r o => intro h q; exact allV_wt hn _ h.2 q
  | an s t ihs iht =>
    intro h q
    rcases vAnd_zero (valT_le _ _ _ _ _) (valT_le _ _ _ _ _) q with q | q
    · exact ihs h.1 q
    · exact iht h.2 q
  | or s t ihs iht =>
    intro h q
    rcases vOr_zero (valT_le _ _ _ _ _) (valT_le _ _ _ _ _) q with q | q
    · exact ihs h.1 q
    · exact iht h.2 q
theorem valT_mo {before own : List GV} {nm : List UInt8} {ns ns' : List Int} {n : Nat} (hn : n ≤ ns.length) (hn' : n ≤ ns'.length) (k : ∀ j, j < n → 3 ≤ ns.getD j 0 → ns'.getD j 0 = ns.getD j 0) : ∀ (t : WT), InT before own nm n t → valT before own nm ns t ≠ 0 → valT before own nm ns' t = valT before own nm ns t := by
  intro t
  induction t with
  | sg => intro h q; exact allV_mo hn hn' k _ h q
  | rf k2 r o => intro h q; exact allV_mo hn hn' k _ h.2 q
  | an s t ihs iht => intro h q; exact vAnd_mo (ihs h.1) (iht h.2) q
  | or s t ihs iht => intro h q; exact vOr_mo (ihs h.1) (iht h.2) q
theorem InT.up {before own : List GV} {nm : List UInt8} {n m : Nat} (hm : n ≤ m) : ∀ (t : WT), InT before own nm n t → InT before own nm m t := by
  intro t
  induction t with
  | sg => intro h j hj; have := h j hj; omega
  | rf k r o => intro h; exact ⟨h.1, fun j hj => by have := h.2 j hj; omega⟩
  | an s t ihs iht => intro h; exact ⟨ihs h.1, iht h.2⟩
  | or s t ihs iht => intro h; exact ⟨ihs h.1, iht h.2⟩
theorem areS_len {ns : List Int} (h : areS ns = true) : ns.length ≤ 24 := by
  unfold areS at h
  simp only [Bool.and_eq_true, decide_eq_true_eq] at h
  exact h.1

/-- A code that asks for jobs below n alone. -/
structure CodeM (C : List UInt8) (n : Nat) : Prop where
  er : ∀ ns : List Int, n ≤ ns.length → areS ns = true → (runE C ns).2 = 0
  le : ∀ ns : List Int, n ≤ ns.length → areS ns = true → (runE C ns).1 ≤ 2
  wt : ∀ ns : List Int, n ≤ ns.length → areS ns = true → (runE C ns).1 = 0 → ∃ j, j < n ∧ ns.getD j 0 < 3
  mo : ∀ ns ns' : List Int, n ≤ ns.length → n ≤ ns'.length → areS ns = true → areS ns' = true → (∀ j, j < n → 3 ≤ ns.getD j 0 → ns'.getD j 0 = ns.getD j 0) → (runE C ns).1 ≠ 0 → (runE C ns').1 = (runE C ns).1
theorem CodeM.up {C : List UInt8} {n m : Nat} (h : CodeM C n) (hm : n ≤ m) : CodeM C m :=
  ⟨fun ns a b => h.er ns (by omega) b, fun ns a b => h.le ns (by omega) b, fun ns a b c => by obtain ⟨j, h1, h2⟩ := h.wt ns (by omega) b c; exact ⟨j, by omega, h2⟩,
    fun ns ns' a a' b b' k c => h.mo ns ns' (by omega) (by omega) b b' (fun j hj => k j (by omega)) c⟩
theorem code_none (n : Nat) : CodeM [0] n := by
  have e : ∀ ns : List Int, areS ns = true → runE [0] ns = (1, 0) := fun ns hs => push_run (push_true ns) (by omega) (by simp) hs
  exact ⟨fun ns _ hs => by rw [e ns hs], fun ns _ hs => by rw [e ns hs]; decide, fun ns _ hs q => by rw [e ns hs] at q; simp at q, fun ns ns' _ _ hs hs' _ _ => by rw [e ns hs, e ns' hs']⟩
theorem code_tree {before own : List GV} {nm : List UInt8} {t : WT} {n : Nat} (h : InT before own nm n t) (hd : dpW t ≤ 2) (hl : (codeX before own nm (stW t)).length ≤ 8000) : CodeM (codeX before own nm (stW t)) n := by
  have e : ∀ ns : List Int, n ≤ ns.length → areS ns = true → runE (codeX before own nm (stW t)) ns = (valT before own nm ns t, 0) := by
    intro ns hn hs
    exact push_run (push_tree (areS_len hs) t (InT.up hn t h)).1 (by omega) hl hs
  refine ⟨fun ns hn hs => by rw [e ns hn hs], fun ns hn hs => by rw [e ns hn hs]; exact valT_le _ _ _ _ _, fun ns hn hs q => ?_, fun ns ns' hn hn' hs hs' k q => ?_⟩
  · rw [e ns hn hs] at q
    exact valT_wt hn t h q
  · rw [e ns hn hs] at q ⊢
    rw [e ns' hn' hs']
    exact valT_mo hn hn' k t h q

variable {ms ns : List MB} {bn bj nodes : Nat} {T : List UInt8} {hs : List HV}
theorem cntM_take_mono (l : List MB) {a b : Nat} (h : a ≤ b) : cntM (l.take a) ≤ cntM (l.take b) := by
  have : l.take b = l.take a ++ (l.take b).drop a := by
    have e := (List.take_append_drop a (l.take b)).symm
    rwa [List.take_take, Nat.min_eq_left h] at e
  rw [this, cntM_app]
  omega
theorem BatOf.inT (B : BatOf ms bn bj nodes T ns hs) (hb : BkOK ms bn bj) (nm : List UInt8) {k : Nat} (hk : k < ns.length) : ∀ (t : WT), OkW t → AllW (RefB (ms ++ ns.take k) (onL (kB T) (nB T)) (bn + 1)) t → InT (ms.map grpM) (ns.map grpM) nm (bj + cntM (ns.take k)) t := by
  have hms : ∀ m ∈ ms, m.first + m.count ≤ bj := by
    intro m hm
    obtain ⟨x, hx, rfl⟩ := List.getElem_of_mem hm
    have e : ms.getD x mb0 = ms[x] := by simp [hx]
    have := sum_take_le ms x hx
    have h2 := hb.fst x hx
    rw [e] at this h2
    rw [h2, ← hb.cnt]
    exact this
  intro t
  induction t with
  | sg =>
    intro _ _ j hj
    unfold earlG at hj
    obtain ⟨g, hg, hj⟩ := List.mem_flatMap.1 hj
    obtain ⟨m, hm, rfl⟩ := List.mem_map.1 hg
    have := hms m hm
    split at hj
    · obtain ⟨q, hq, rfl⟩ := List.mem_map.1 hj
      have hq := List.mem_range.1 hq
      have hq : q < m.count := hq
      show m.first + q < _
      omega
    · simp at hj
  | rf op r o =>
    intro h1 h2
    refine ⟨h1.1, ?_⟩
    obtain ⟨q1, q2⟩ := B.meant hb.bat hk h2
    intro j hj
    cases e : meantG (ms.map grpM) (ns.map grpM) r with
    | none => rw [e] at hj; simp [jobsG] at hj
    | some g =>
      have hg : g.first + g.count ≤ bj + cntM (ns.take k) := by
        unfold meantG at e
        split at e
        · rename_i i hi
          have hik := q2 i (by rw [← hi]; simp)
          have hil : i < ns.length := by omega
          rw [List.getElem?_map, List.getElem?_eq_getElem hil] at e
          have e := Option.some.inj e
          subst e
          have e2 : ns.getD i mb0 = ns[i] := by simp [hil]
          have h3 := (B.hd i hil).ft
          rw [e2] at h3
          show ns[i].first + ns[i].count ≤ _
          rw [h3]
          have h4 := cntM_take_mono ns (show i + 1 ≤ k by omega)
          rw [take_snoc ns hil, cntM_app, e2] at h4
          have h5 : cntM [ns[i]] = ns[i].count := by simp [cntM]
          omega
        · split at e
          · rename_i x hx
            cases hq : (ms.map grpM)[x]? with
            | none => rw [hq] at e; simp at e
            | some g' =>
              rw [hq] at e
              have e := Option.some.inj e
              subst e
              have hm0 := List.mem_of_getElem? hq
              obtain ⟨m, hm, rfl⟩ := List.mem_map.1 hm0
              have := hms m hm
              show m.first + m.count ≤ _
              omega
          · simp at e
      rw [e] at hj q1
      unfold jobsG at hj
      unfold existsG at q1
      dsimp only at hj q1
      split at hj
      · rename_i hn
        rw [hn] at q1
        simp at q1 hj
        omega
      · obtain ⟨q, hq, rfl⟩ := List.mem_map.1 hj
        have hq := List.mem_range.1 hq
        omega
  | an s t ihs iht => intro h1 h2; exact ⟨ihs h1.1 h2.1, iht h1.2 h2.2⟩
  | or s t ihs iht => intro h1 h2; exact ⟨ihs h1.1 h2.1, iht h1.2 h2.2⟩
theorem BatOf.codeM (B : BatOf ms bn bj nodes T ns hs) (hb : BkOK ms bn bj) {k : Nat} (hk : k < ns.length) (hl : (codeF (ms.map grpM) (ns.map grpM) (hs.getD k hv0)).length ≤ 8000) : CodeM (codeF (ms.map grpM) (ns.map grpM) (hs.getD k hv0)) (bj + cntM (ns.take k)) := by
  obtain ⟨q1, _, _, _, _, _, q7⟩ := hvX_job (B.hv k hk)
  have H := B.hd k hk
  rw [codeF_X, q7] at hl ⊢
  split at hl
  · rename_i e
    rw [if_pos e]
    exact code_none _
  · rename_i e
    rw [if_neg e]
    unfold stM at *
    cases ht : (ns.getD k mb0).tree with
    | none => rw [ht] at e; simp at e
    | some t =>
      rw [ht] at hl
      obtain ⟨a, b⟩ := H.good.tr t ht
      exact code_tree (B.inT hb _ hk t b (H.rf t ht)) a hl

/-- Codes of jobs that ask for jobs of smaller numbers alone. -/
def CodeA (js : List PJ) : Prop := ∀ i, i < js.length → CodeM (js.getD i pj0).code i
theorem CodeA.same {js js' : List PJ} (h : CodeA js) (hl : js'.length = js.length) (hc : ∀ i, i < js.length → (js'.getD i pj0).code = (js.getD i pj0).code) : CodeA js' := by
  intro i hi
  rw [hc i (by omega)]
  exact h i (by omega)
theorem BatOf.codes (B : BatOf ms bn bj nodes T ns hs) (hb : BkOK ms bn bj) {p : PS} (hp : p.gs = ms.map grpM) (hj : p.js.length = bj) (hc : cntM ms ≤ 24) (hA : CodeA p.js) : ∀ n, n ≤ ns.length → CodeA (takeN p (ns.map grpM) hs n) := by
  intro n
  induction n with
  | zero => intro _; exact hA
  | succ n ih =>
    intro hn
    have h1 := ih (by omega)
    have hl := takeN_len p (ns.map grpM) hs n (by simp; omega)
    have hlt : n < ns.length := by omega
    rw [← List.map_take, cntG_map, hj] at hl
    have hcl : (codeF (ms.map grpM) (ns.map grpM) (hs.getD n hv0)).length ≤ 8000 := by
      refine code_len ?_ ?_ ?_ (B.wlen (by omega))
      · rw [cntG_map]; exact hc
      · intro g hg'
        obtain ⟨m, hm, rfl⟩ := List.mem_map.1 hg'
        have := (hb.good m hm).c6
        show m.count ≤ 24
        omega
      · intro g hg'
        obtain ⟨m, hm, rfl⟩ := List.mem_map.1 hg'
        obtain ⟨j, hj, rfl⟩ := List.getElem_of_mem hm
        have := (B.hd j hj).good.c6
        rw [show ns.getD j mb0 = ns[j] from by simp [hj]] at this
        show ns[j].count ≤ 24
        omega
    have hM := B.codeM hb hlt hcl
    unfold takeN
    intro i hi
    rw [getD_app]
    split
    · exact h1 i (by assumption)
    · rename_i hge
      rw [List.length_append, List.length_replicate] at hi
      have hin : i - (takeN p (ns.map grpM) hs n).length < ((ns.map grpM).getD n noG).count := by omega
      have e : (List.replicate ((ns.map grpM).getD n noG).count (newJ (codeF p.gs (ns.map grpM) (hs.getD n hv0)) (hs.getD n hv0).nodes (hs.getD n hv0).time)).getD (i - (takeN p (ns.map grpM) hs n).length) pj0 = newJ (codeF p.gs (ns.map grpM) (hs.getD n hv0)) (hs.getD n hv0).nodes (hs.getD n hv0).time := by
        rw [List.getD_eq_getElem?_getD, List.getElem?_replicate, if_pos hin]
        rfl
      rw [e]
      show CodeM (codeF p.gs (ns.map grpM) (hs.getD n hv0)) i
      rw [hp]
      exact hM.up (by omega)

/-- Values stay. -/
structure OkL (js : List PJ) : Prop where
  ln : js.length ≤ 24
  st : ∀ j ∈ js, j.st ≤ 6
theorem OkL.are {js : List PJ} (h : OkL js) : areS (stI js) = true := areS_st h.ln h.st
theorem stI_len (js : List PJ) : (stI js).length = js.length := by simp [stI]
theorem stI_get (js : List PJ) {i : Nat} (h : i < js.length) : (stI js).getD i 0 = ((js.getD i pj0).st : Int) := by
  simp [stI, h]
theorem val_mo {js js' : List PJ} (hA : CodeA js) (ho : OkL js) (ho' : OkL js') (hl : js.length ≤ js'.length) (hc : ∀ i, i < js.length → (js'.getD i pj0).code = (js.getD i pj0).code) (hst : ∀ i, i < js.length → 3 ≤ (js.getD i pj0).st → (js'.getD i pj0).st = (js.getD i pj0).st) {i : Nat} (hi : i < js.length) (h : valJ js i ≠ 0) : valJ js' i = valJ js i := by
  unfold valJ at *
  rw [hc i hi]
  refine (hA i hi).mo (stI js) (stI js') (by rw [stI_len]; omega) (by rw [stI_len]; omega) ho.are ho'.are ?_ h
  intro j hj
  rw [stI_get js (by omega), stI_get js' (by omega)]
  intro q
  rw [hst j (by omega) (by omega)]
theorem val_low {js js' : List PJ} (hA : CodeA js) (ho : OkL js) (ho' : OkL js') (hl : js'.length = js.length) (hc : ∀ i, i < js.length → (js'.getD i pj0).code = (js.getD i pj0).code) (hst : ∀ i, i < js.length → (js'.getD i pj0).st = (js.getD i pj0).st ∨ ((js.getD i pj0).st < 3 ∧ (js'.getD i pj0).st < 3)) {i : Nat} (hi : i < js.length) : valJ js' i = valJ js i := by
  by_cases h : valJ js i = 0
  · by_cases h' : valJ js' i = 0
    · rw [h, h']
    · refine (val_mo (hA.same hl hc) ho' ho (by omega) (fun i hi => (hc i (by omega)).symm) ?_ (by omega) h').symm
      intro i hi q
      rcases hst i (by omega) with r | r
      · exact r.symm
      · omega
  · refine val_mo hA ho ho' (by omega) hc ?_ hi h
    intro i hi q
    rcases hst i (by omega) with r | r
    · exact r
    · omega
end Go.Proofs.YtanknpmojblmcaaGreatDoor

/-
  What settles is decided as the codes tell.
-/
set_option linter.unusedSimpArgs false
set_option linter.unusedVariables false
namespace Go.Proofs.YtanknpmojblmcaaGreatDoor

/-- What was decided was decided rightly. -/
def PreD (js : List PJ) : Prop := ∀ i, i < js.length → (1 ≤ (js.getD i pj0).st → (js.getD i pj0).st ≤ 4 → valJ js i = 1) ∧ ((js.getD i pj0).st = 6 → valJ js i = 2)
structure DecJ (js : List PJ) : Prop where
  c : CodeA js
  p : PreD js
  h : ∀ i, i < js.length → (js.getD i pj0).st = 0 → valJ js i = 0
theorem POK.okl {p : PS} (h : POK p) : OkL p.js := ⟨h.n.ln, fun j hj => (h.n.js j hj).st⟩
theorem OkL.set {js : List PJ} (h : OkL js) (n : Nat) {x : PJ} (hx : x.st ≤ 6) : OkL (js.set n x) := by
  refine ⟨by simpa using h.ln, ?_⟩
  intro j hj
  rcases List.mem_or_eq_of_mem_set hj with q | q
  · exact h.st j q
  · rw [q]; exact hx
theorem pre_next {js js' : List PJ} (hP : PreD js) (hA : CodeA js) (ho : OkL js) (ho' : OkL js') (hl : js.length ≤ js'.length) (hc : ∀ i, i < js.length → (js'.getD i pj0).code = (js.getD i pj0).code) (h3 : ∀ i, i < js.length → 3 ≤ (js.getD i pj0).st → (js'.getD i pj0).st = (js.getD i pj0).st)
    (h1 : ∀ i, i < js.length → 1 ≤ (js'.getD i pj0).st → (js'.getD i pj0).st ≤ 4 → 1 ≤ (js.getD i pj0).st ∧ (js.getD i pj0).st ≤ 4) (h6 : ∀ i, i < js.length → (js'.getD i pj0).st = 6 → (js.getD i pj0).st = 6 ∨ valJ js i = 2) (h0 : ∀ i, js.length ≤ i → i < js'.length → (js'.getD i pj0).st = 0) : PreD js' := by
  intro i hi
  by_cases hb : i < js.length
  · obtain ⟨a, b⟩ := hP i hb
    constructor
    · intro q1 q2
      obtain ⟨r1, r2⟩ := h1 i hb q1 q2
      have v := a r1 r2
      rw [val_mo hA ho ho' hl hc h3 hb (by omega), v]
    · intro q
      have v : valJ js i = 2 := by
        rcases h6 i hb q with r | r
        · exact b r
        · exact r
      rw [val_mo hA ho ho' hl hc h3 hb (by omega), v]
  · have := h0 i (by omega) hi
    exact ⟨fun q => by omega, fun q => by omega⟩
theorem held_val {js : List PJ} {i v : Nat} (h : heldB js i v = true) : (js.getD i pj0).st = 0 ∧ valJ js i = v := by
  unfold heldB at h
  simp only [Bool.and_eq_true, decide_eq_true_eq] at h
  exact h
theorem held_not {js : List PJ} {i v : Nat} (h : heldB js i v = false) (h0 : (js.getD i pj0).st = 0) : valJ js i ≠ v := by
  unfold heldB at h
  intro q
  rw [decide_eq_true h0, decide_eq_true q] at h
  simp at h
theorem giveN_pre (now : Int) {js : List PJ} (hP : PreD js) (hA : CodeA js) (ho : OkL js) : ∀ n, n ≤ js.length → PreD (giveN now js n).1 ∧ CodeA (giveN now js n).1 ∧ OkL (giveN now js n).1 := by
  intro n
  induction n with
  | zero => intro _; exact ⟨hP, hA, ho⟩
  | succ n ih =>
    intro hn
    obtain ⟨a, b, c⟩ := ih (by omega)
    have hl := giveN_len now js n
    unfold giveN
    split
    · rename_i hh
      obtain ⟨v0, v2⟩ := held_val hh
      have hi : n < (giveN now js n).1.length := by omega
      have c' : OkL ((giveN now js n).1.set n ((((giveN now js n).1.getD n pj0).toSt 6).toEn now)) := c.set n (by show 6 ≤ 6; omega)
      have hcode : ∀ i, i < (giveN now js n).1.length → (((giveN now js n).1.set n ((((giveN now js n).1.getD n pj0).toSt 6).toEn now)).getD i pj0).code = ((giveN now js n).1.getD i pj0).code := by
        intro i _
        rw [getD_set hi]
        split
        · rename_i e; rw [e]; rfl
        · rfl
      refine ⟨pre_next a b c c' (by simp) hcode ?_ ?_ ?_ ?_, b.same (by simp) hcode, c'⟩
      · intro i _ q
        rw [getD_set hi]
        split
        · rename_i e; rw [e] at q; omega
        · rfl
      · intro i _
        rw [getD_set hi]
        split
        · intro q1 q2
          have : 6 ≤ 4 := q2
          omega
        · intro q1 q2; exact ⟨q1, q2⟩
      · intro i _
        rw [getD_set hi]
        split
        · rename_i e; intro _; right; rw [e]; exact v2
        · intro q; exact Or.inl q
      · intro i q1 q2
        simp at q2
        omega
    · exact ⟨a, b, c⟩
theorem giveF_pre (now : Int) : ∀ (k : Nat) (js : List PJ), PreD js → CodeA js → OkL js → PreD (giveF now k js) := by
  intro k
  induction k with
  | zero => intro js h _ _; exact h
  | succ k ih =>
    intro js hP hA ho
    obtain ⟨a, b, c⟩ := giveN_pre now hP hA ho js.length (Nat.le_refl _)
    unfold giveF
    split
    · exact ih _ a b c
    · exact a
/-- Queued is held no more, no value is another. -/
theorem queN_dec {p : PS} (hA : CodeA p.js) (ho : OkL p.js) : ∀ n, n ≤ p.js.length → OkL (queN p n).1 ∧ (∀ i, i < p.js.length → ((queN p n).1.getD i pj0).code = (p.js.getD i pj0).code) ∧
    (∀ i, i < p.js.length → ((queN p n).1.getD i pj0).st = (p.js.getD i pj0).st ∨ ((p.js.getD i pj0).st = 0 ∧ ((queN p n).1.getD i pj0).st = 1 ∧ valJ p.js i = 1)) ∧ (∀ i, i < n → ((queN p n).1.getD i pj0).st = 0 → valJ p.js i ≠ 1) ∧ (∀ i, n ≤ i → (queN p n).1.getD i pj0 = p.js.getD i pj0) := by
  intro n
  induction n with
  | zero => intro _; exact ⟨ho, fun i _ => rfl, fun i _ => Or.inl rfl, fun i hi => by omega, fun i _ => rfl⟩
  | succ n ih =>
    intro hn
    obtain ⟨a, b, c, d, e⟩ := ih (by omega)
    have hl := (queN_len p n).1
    have hi : n < (queN p n).1.length := by omega
    have hv : ∀ i, i < p.js.length → valJ (queN p n).1 i = valJ p.js i := by
      intro i hi
      refine val_low hA ho a hl b ?_ hi
      intro i hi
      rcases c i hi with q | ⟨q1, q2, _⟩
      · exact Or.inl q
      · right; omega
    unfold queN
    split
    · rename_i hh
      obtain ⟨v0, v1⟩ := held_val hh
      rw [hv n (by omega)] at v1
      rw [e n (Nat.le_refl _)] at v0
      dsimp only
      refine ⟨a.set n (by show 1 ≤ 6; omega), ?_, ?_, ?_, ?_⟩
      · intro i hi2
        rw [getD_set hi]
        split
        · rename_i q; rw [q]; exact b n (by omega)
        · exact b i hi2
      · intro i hi2
        rw [getD_set hi]
        split
        · rename_i q; subst q; right; exact ⟨v0, rfl, v1⟩
        · exact c i hi2
      · intro i hi2
        rw [getD_set hi]
        split
        · intro q
          have : 1 = 0 := q
          omega
        · exact d i (by omega)
      · intro i hi2
        rw [getD_set hi, if_neg (by omega)]
        exact e i (by omega)
    · rename_i hh
      refine ⟨a, b, c, ?_, fun i hi2 => e i (by omega)⟩
      intro i hi2 q
      by_cases ei : i = n
      · subst ei
        rw [← hv i (by omega)]
        exact held_not (by simpa using hh) q
      · exact d i (by omega) q
theorem settle_dec {p : PS} (hp : POK p) (hf : Fitg p.nodes p.now p.js) (hA : CodeA p.js) (hP : PreD p.js) : DecJ (settleF p).js := by
  obtain ⟨sS, sW⟩ := settle_set hp hf
  have hC : CodeA (settleF p).js := hA.same sW.1 (fun i hi => (sW.2 i hi).cd)
  -- given up
  obtain ⟨a1, a2⟩ := giveF_fit p.nodes p.now (cntH p.js + 1) p.js hf
  have p1 := giveUpF_ok hp
  have g1 : PreD (giveUpF p).js := giveF_pre p.now _ _ hP hA hp.okl
  obtain ⟨g2, g3⟩ := giveUp_spec p
  have c1 : CodeA (giveUpF p).js := hA.same a2.1 (fun i hi => (a2.2 i hi).cd)
  have l1 : (giveUpF p).js.length = p.js.length := a2.1
  -- moved up
  obtain ⟨b1, b2, b3, b4⟩ := moveF_fit (sumS (giveUpF p).js + 1) (giveUpF p) rfl rfl rfl p1 (Nat.lt_succ_self _) a1
  have p2 := moveUpF_ok p1
  have l2 : (moveUpF (giveUpF p)).js.length = (giveUpF p).js.length := b2.1
  have st2 : ∀ i, i < (giveUpF p).js.length → ((moveUpF (giveUpF p)).js.getD i pj0).st = ((giveUpF p).js.getD i pj0).st := b3
  have cd2 : ∀ i, i < (giveUpF p).js.length → ((moveUpF (giveUpF p)).js.getD i pj0).code = ((giveUpF p).js.getD i pj0).code := fun i hi => (b2.2 i hi).cd
  have c2 : CodeA (moveUpF (giveUpF p)).js := c1.same l2 cd2
  have v2 : ∀ i, i < (giveUpF p).js.length → valJ (moveUpF (giveUpF p)).js i = valJ (giveUpF p).js i := fun i hi => val_low c1 p1.okl p2.okl l2 cd2 (fun i hi => Or.inl (st2 i hi)) hi
  -- queued up
  obtain ⟨d1, d2, d3, d4, _⟩ := queN_dec (p := moveUpF (giveUpF p)) c2 p2.okl _ (Nat.le_refl _)
  have p3 := queueUpF_ok p2
  have l3 : (queueUpF (moveUpF (giveUpF p))).js.length = (moveUpF (giveUpF p)).js.length := (queN_len _ _).1
  have c3 : CodeA (queueUpF (moveUpF (giveUpF p))).js := c2.same l3 d2
  have v3 : ∀ i, i < (moveUpF (giveUpF p)).js.length → valJ (queueUpF (moveUpF (giveUpF p))).js i = valJ (moveUpF (giveUpF p)).js i := by
    intro i hi
    refine val_low c2 p2.okl p3.okl l3 d2 ?_ hi
    intro i hi
    rcases d3 i hi with q | ⟨q1, q2, _⟩
    · exact Or.inl q
    · right
      change ((moveUpF (giveUpF p)).js.getD i pj0).st < 3 ∧ ((queN (moveUpF (giveUpF p)) (moveUpF (giveUpF p)).js.length).1.getD i pj0).st < 3
      omega
  -- begun
  obtain ⟨e1, e2⟩ := begN_st (now := (queueUpF (moveUpF (giveUpF p))).now) p3.q.lt p3.q.q1 _ (Nat.le_refl _)
  have l4 : (settleF p).js.length = (queueUpF (moveUpF (giveUpF p))).js.length := e1
  have st4 : ∀ i, i < (queueUpF (moveUpF (giveUpF p))).js.length → ((settleF p).js.getD i pj0).st = ((queueUpF (moveUpF (giveUpF p))).js.getD i pj0).st ∨ (((queueUpF (moveUpF (giveUpF p))).js.getD i pj0).st = 1 ∧ ((settleF p).js.getD i pj0).st = 2) := by
    intro i hi
    rcases (e2 i hi).1 with q | ⟨q1, q2, q3⟩
    · left
      exact congrArg PJ.st q
    · right
      exact ⟨q1, congrArg PJ.st q3⟩
  have cd4 : ∀ i, i < (queueUpF (moveUpF (giveUpF p))).js.length → ((settleF p).js.getD i pj0).code = ((queueUpF (moveUpF (giveUpF p))).js.getD i pj0).code := by
    intro i hi
    rcases (e2 i hi).1 with q | ⟨q1, q2, q3⟩
    · exact congrArg PJ.code q
    · rw [show (settleF p).js.getD i pj0 = _ from q3]; rfl
  have v4 : ∀ i, i < (queueUpF (moveUpF (giveUpF p))).js.length → valJ (settleF p).js i = valJ (queueUpF (moveUpF (giveUpF p))).js i := by
    intro i hi
    refine val_low c3 p3.okl sS.ok.okl l4 cd4 ?_ hi
    intro i hi
    rcases st4 i hi with q | q
    · exact Or.inl q
    · right; omega
  have key : ∀ i, i < p.js.length → ∃ g s, ((giveUpF p).js.getD i pj0).st = g ∧ ((settleF p).js.getD i pj0).st = s ∧ valJ (settleF p).js i = valJ (giveUpF p).js i ∧ (s = g ∨ (g = 0 ∧ (s = 1 ∨ s = 2) ∧ valJ (giveUpF p).js i = 1) ∨ (g = 1 ∧ s = 2)) ∧ (s = 0 → g = 0 ∧ valJ (giveUpF p).js i ≠ 1) := by
    intro i hi
    have h1 : i < (giveUpF p).js.length := by omega
    have h2 : i < (moveUpF (giveUpF p)).js.length := by omega
    have h3 : i < (queueUpF (moveUpF (giveUpF p))).js.length := by omega
    refine ⟨_, _, rfl, rfl, by rw [v4 i h3, v3 i h2, v2 i h1], ?_, ?_⟩
    · have q2 := st2 i h1
      have q3 := d3 i h2
      have q4 := st4 i h3
      rw [v2 i h1] at q3
      change ((queueUpF (moveUpF (giveUpF p))).js.getD i pj0).st = _ ∨ _ ∧ ((queueUpF (moveUpF (giveUpF p))).js.getD i pj0).st = 1 ∧ _ at q3
      omega
    · intro q
      have q2 := st2 i h1
      have q3 := d3 i h2
      have q4 := st4 i h3
      have q5 := d4 i h2
      rw [v2 i h1] at q3 q5
      change ((queueUpF (moveUpF (giveUpF p))).js.getD i pj0).st = _ ∨ _ ∧ ((queueUpF (moveUpF (giveUpF p))).js.getD i pj0).st = 1 ∧ _ at q3
      change ((queueUpF (moveUpF (giveUpF p))).js.getD i pj0).st = 0 → _ at q5
      exact ⟨by omega, q5 (by omega)⟩
  have hlen : (settleF p).js.length = p.js.length := sW.1
  refine ⟨hC, ?_, ?_⟩
  · intro i hi
    rw [hlen] at hi
    obtain ⟨g, s, hg, hs, hv, hgs, _⟩ := key i hi
    obtain ⟨r1, r2⟩ := g1 i (by omega)
    rw [hg] at r1 r2
    rw [hs, hv]
    constructor
    · intro q1 q2
      rcases hgs with q | ⟨_, _, q⟩ | ⟨q, _⟩
      · exact r1 (by omega) (by omega)
      · exact q
      · exact r1 (by omega) (by omega)
    · intro q
      exact r2 (by omega)
  · intro i hi h0
    rw [hlen] at hi
    obtain ⟨g, s, hg, hs, hv, _, hz⟩ := key i hi
    rw [hs] at h0
    obtain ⟨z1, z2⟩ := hz h0
    have n2 := held_not (g3 i hi) (by rw [hg]; exact z1)
    have le : valJ (giveUpF p).js i ≤ 2 := (c1 i (by omega)).le _ (by rw [stI_len]; omega) p1.okl.are
    rw [hv]
    omega
theorem pass_dec {p : PS} (h : Stl p) (hn : p.now < 5000) (hD : DecJ p.js) : DecJ (passF p).js := by
  obtain ⟨a, b⟩ := pass_fit h
  have hp := passN_ok (later_ok h.ok hn) _ (Nat.le_refl _)
  have hl := passN_len (p.now + 1) p.js p.js.length
  have hg := passN_st (p.now + 1) p.js p.js.length (Nat.le_refl _)
  have hc : ∀ i, i < p.js.length → ((passN (p.now + 1) p.js p.js.length).getD i pj0).code = (p.js.getD i pj0).code := fun i hi => (b.2 i hi).cd
  have hst : ∀ i, i < p.js.length → ((passN (p.now + 1) p.js p.js.length).getD i pj0).st = (p.js.getD i pj0).st ∨ ((p.js.getD i pj0).st = 2 ∧ ((passN (p.now + 1) p.js p.js.length).getD i pj0).st = 4) := by
    intro i hi
    rw [hg i hi]
    split
    · rename_i q; right; exact ⟨q.2.1, rfl⟩
    · left; rfl
  have hP : PreD (passN (p.now + 1) p.js p.js.length) := by
    refine pre_next hD.p hD.c h.ok.okl (POK.okl hp) (by omega) hc ?_ ?_ ?_ ?_
    · intro i hi q; have := hst i hi; omega
    · intro i hi q1 q2; have := hst i hi; omega
    · intro i hi q; have := hst i hi; left; omega
    · intro i h1 h2; omega
  exact settle_dec (p := { p with now := p.now + 1, js := passN (p.now + 1) p.js p.js.length }) hp a (hD.c.same hl hc) hP
theorem tick_dec {p : PS} (h : Stl p) (hD : DecJ p.js) : ∀ n : Nat, p.now + (n : Int) ≤ 5000 → DecJ (tickN p n).js := by
  intro n
  induction n with
  | zero => intro _; exact hD
  | succ n ih =>
    intro hn
    obtain ⟨a, b, c, d, e⟩ := tick_set h n (by omega)
    exact pass_dec a (by omega) (ih (by omega))
theorem end_dec {p r : PS} (h : Stl p) (hD : DecJ p.js) {id : Nat} (hid : id < p.js.length) {x : PJ} (hx : x.code = (p.js.getD id pj0).code) (hj : r.js = p.js.set id x) (hp : POK r) (hf : Fitg r.nodes r.now r.js) (hs : ((p.js.getD id pj0).st = 2 ∧ 3 ≤ x.st ∧ x.st ≤ 4) ∨ ((p.js.getD id pj0).st ≤ 2 ∧ x.st = 5)) : DecJ (settleF r).js := by
  have hl : r.js.length = p.js.length := by rw [hj]; simp
  have hg : ∀ i, r.js.getD i pj0 = if i = id then x else p.js.getD i pj0 := by intro i; rw [hj, getD_set hid]
  have hc : ∀ i, i < p.js.length → (r.js.getD i pj0).code = (p.js.getD i pj0).code := by
    intro i hi
    rw [hg]
    split
    · rename_i e; rw [e]; exact hx
    · rfl
  refine settle_dec hp hf (hD.c.same hl hc) ?_
  refine pre_next hD.p hD.c h.ok.okl hp.okl (by omega) hc ?_ ?_ ?_ ?_
  · intro i hi q
    rw [hg]
    split
    · rename_i e; rw [e] at q; omega
    · rfl
  · intro i hi
    rw [hg]
    split
    · rename_i e; intro q1 q2; rw [e]; omega
    · intro q1 q2; exact ⟨q1, q2⟩
  · intro i hi
    rw [hg]
    split
    · rename_i e; intro q; omega
    · intro q; exact Or.inl q
  · intro i h1 h2; omega
theorem finish_dec {p : PS} (h : Stl p) (hD : DecJ p.js) {id : Nat} (ok : Bool) (hid : id < p.js.length) (hs : (p.js.getD id pj0).st = 2) : DecJ (finishF p (id : Int) ok).1.js := by
  have hf := end_fit h (st := if ok then 3 else 4) hid (Or.inl ⟨by cases ok <;> simp, by cases ok <;> simp, hs⟩)
  have hp := endP_ok h.ok id (if ok then 3 else 4) hid (by omega) (by cases ok <;> simp) (by cases ok <;> simp)
  have e : finishF p (id : Int) ok = (settleF (endP p id (if ok then 3 else 4)), 0) := by
    unfold finishF hasP
    rw [if_neg (by simp; omega), Int.toNat_natCast, if_neg (by omega)]
  rw [e]
  refine end_dec h hD hid (x := ((p.js.getD id pj0).toSt (if ok then 3 else 4)).toEn p.now) rfl rfl hp hf (Or.inl ⟨hs, ?_, ?_⟩)
  · show 3 ≤ (if ok then 3 else 4); cases ok <;> simp
  · show (if ok then 3 else 4) ≤ 4; cases ok <;> simp
theorem cancel_dec {p : PS} (h : Stl p) (hD : DecJ p.js) {id : Nat} (hid : id < p.js.length) (hs : (p.js.getD id pj0).st ≤ 2) : DecJ (cancelF p (id : Int)).1.js := by
  by_cases e : (p.js.getD id pj0).st = 1
  · have e2 : cancelF p (id : Int) = (settleF (endP (leaveP p id) id 5), 0) := by
      unfold cancelF hasP
      rw [if_neg (by simp; omega), Int.toNat_natCast, if_neg (by omega), if_pos e]
    rw [e2]
    refine end_dec h hD hid (x := (((p.js.getD id pj0).toSa (-1)).toSt 5).toEn p.now) rfl ?_ (leaveP_ok h.ok id hid e) (leave_fit h hid e) (Or.inr ⟨hs, rfl⟩)
    show (p.js.set id ((p.js.getD id pj0).toSa (-1))).set id ((((p.js.set id ((p.js.getD id pj0).toSa (-1))).getD id pj0).toSt 5).toEn p.now) = _
    rw [getD_set hid, if_pos rfl, List.set_set]
  · have e2 : cancelF p (id : Int) = (settleF (endP p id 5), 0) := by
      unfold cancelF hasP
      rw [if_neg (by simp; omega), Int.toNat_natCast, if_neg (by omega), if_neg e]
    rw [e2]
    exact end_dec h hD hid (x := ((p.js.getD id pj0).toSt 5).toEn p.now) rfl rfl (endP_ok h.ok id 5 hid e (by omega) (by omega)) (end_fit h hid (Or.inr ⟨rfl, hs, e⟩)) (Or.inr ⟨hs, rfl⟩)
end Go.Proofs.YtanknpmojblmcaaGreatDoor

/-
  A world whose jobs are decided, move by move; its end.
-/
set_option linter.unusedSimpArgs false
set_option linter.unusedVariables false
namespace Go.Proofs.YtanknpmojblmcaaGreatDoor

theorem sub_dec {p : PS} {ms ns : List MB} {bn bj : Nat} {T : List UInt8} {hs : List HV} (h : WI p ms bn bj) (B : BatOf ms bn bj p.nodes T ns hs) (hn8 : p.nodes ≤ 8) (hD : DecJ p.js) (hc : bj + cntM ns ≤ 24) : DecJ (subF p (batF ms bn bj p.nodes T).text).1.js := by
  have hl := h.len
  have hw := B.wide
  have hm := B.miss h.bk.bat
  have hr := B.ring h.bk.bat
  have ho := B.own
  have hcn : cntG (ns.map grpM) = cntM ns := cntG_map ns
  have hc24 : cntM ms ≤ 24 := by rw [h.bk.cnt, ← hl]; exact h.st.ok.n.ln
  have hsub : subF p (batF ms bn bj p.nodes T).text = if 24 < bj + cntM ns then (p, (8, 0, 0, 0), []) else (settleF (takeF p (ns.map grpM) hs), (0, 0, bj, cntM ns), []) := by
    unfold subF
    rw [B.rd]
    dsimp only
    rw [if_neg (by simp), hw]
    dsimp only
    rw [hl, ho, h.gs, hm]
    dsimp only
    rw [hr, if_neg (by simp), hcn]
  obtain ⟨L, t1, t2, t3⟩ := B.takes h.bk.good h.gs hc24 hn8 ns.length (Nat.le_refl _)
  rw [List.take_length] at t2
  have hLl : L.length = cntM ns := by
    have := congrArg List.length t2
    rw [List.length_map, jobsM_len] at this
    exact this
  have ht : takeF p (ns.map grpM) hs = { p with js := p.js ++ L, gs := p.gs ++ ns.map grpM } := by
    unfold takeF
    rw [B.hl, t1]
  obtain ⟨a, b⟩ := take_pok h.st t3 (by omega) (G := p.gs ++ ns.map grpM)
  have hA := B.codes h.bk h.gs hl hc24 hD.c ns.length (Nat.le_refl _)
  rw [t1] at hA
  rw [hsub, if_neg (by omega), ht]
  refine settle_dec (p := { p with js := p.js ++ L, gs := p.gs ++ ns.map grpM }) a b hA ?_
  have hg : ∀ i, i < p.js.length → (p.js ++ L).getD i pj0 = p.js.getD i pj0 := by intro i hi; rw [getD_app, if_pos hi]
  refine pre_next hD.p hD.c h.st.ok.okl (POK.okl a) (by simp) ?_ ?_ ?_ ?_ ?_
  · intro i hi; show ((p.js ++ L).getD i pj0).code = _; rw [hg i hi]
  · intro i hi q; show ((p.js ++ L).getD i pj0).st = _; rw [hg i hi]
  · intro i hi; show 1 ≤ ((p.js ++ L).getD i pj0).st → ((p.js ++ L).getD i pj0).st ≤ 4 → _; rw [hg i hi]; intro q1 q2; exact ⟨q1, q2⟩
  · intro i hi; show ((p.js ++ L).getD i pj0).st = 6 → _; rw [hg i hi]; intro q; exact Or.inl q
  · intro i h1 h2
    show ((p.js ++ L).getD i pj0).st = 0
    have h2 : i < (p.js ++ L).length := h2
    rw [List.length_append] at h2
    rw [getD_app, if_neg (by omega)]
    exact (t3 _ (getD_in (by omega))).1
theorem step_dec {x : WS} (h : WOK x) (hD : DecJ x.p.js) (m : Mv) : DecJ (stepW x m).p.js := by
  unfold stepW
  split
  · obtain ⟨ns, hs, B⟩ := batF_ok (bn := x.bn) (bj := x.p.js.length) (T := m.s.data.toList) h.wi.bk.good h.n1 h.n8
    rw [B.jb]
    split
    · exact hD
    · rename_i hc
      exact sub_dec h.wi B h.n8 hD (by omega)
  split
  · split
    · exact hD
    · rename_i hc
      have hn := h.wi.st.f.n0
      exact tick_dec h.wi.st hD _ (by omega)
  split
  · cases hA : amgF false x.p.js m.a with
    | none => exact hD
    | some id =>
      unfold amgF at hA
      split at hA
      · simp at hA
      obtain ⟨a1, a2, a3⟩ := amgN_some _ hA
      have hst : (x.p.js.getD id pj0).st = 2 := by unfold amgB at a2; simpa using a2
      exact finish_dec h.wi.st hD _ a1 hst
  split
  · cases hA : amgF true x.p.js m.a with
    | none => exact hD
    | some id =>
      unfold amgF at hA
      split at hA
      · simp at hA
      obtain ⟨a1, a2, a3⟩ := amgN_some _ hA
      have hst : (x.p.js.getD id pj0).st ≤ 2 := by unfold amgB at a2; simp at a2; simp; omega
      exact cancel_dec h.wi.st hD a1 hst
  · exact hD
theorem dec_nil : DecJ [] := ⟨fun i hi => by simp at hi, fun i hi => by simp at hi, fun i hi => by simp at hi⟩

theorem oth_zero {js : List PJ} {id : Nat} {m : Int} : ∀ n, (∀ k, k < n → wantsAt (js.getD k pj0) m = true → k = id) → othN js id m n = 0 := by
  intro n
  induction n with
  | zero => intro _; rfl
  | succ n ih =>
    intro h
    unfold othN
    rw [ih (fun k hk => h k (by omega)), if_neg]
    rintro ⟨a, b⟩
    exact a (h n (by omega) b)
/-- Where something is not at an end something runs. -/
theorem live_q {p : PS} (h : Stl p) (hr : ∀ k, k < p.js.length → (p.js.getD k pj0).st ≠ 2) : ∀ (n i : Nat), i < p.js.length → (p.js.getD i pj0).st = 1 → (p.js.getD i pj0).sa ≤ (n : Int) → False := by
  intro n
  induction n with
  | zero =>
    intro i hi h1 h2
    have := h.l i hi h1
    have := h.f.n0
    omega
  | succ n ih =>
    intro i hi h1 h2
    by_cases hx : ∃ k, k < p.js.length ∧ (p.js.getD k pj0).st = 1 ∧ (p.js.getD k pj0).sa ≤ (n : Int)
    · obtain ⟨k, a, b, c⟩ := hx
      exact ih k a b c
    · have hl := h.l i hi h1
      have hg := h.g i hi h1 ((p.js.getD i pj0).sa - 1) (by omega) (by omega)
      have hroom := h.room hi h1
      rw [fits_iff] at hroom
      have : fitsF p.js p.nodes i ((p.js.getD i pj0).sa - 1) = true := by
        rw [fits_iff]
        intro m m1 m2
        by_cases e : m = (p.js.getD i pj0).sa - 1
        · unfold loadF
          rw [oth_want, oth_zero]
          · have := (h.f.t i hi).nd
            omega
          · intro k hk hw
            exfalso
            unfold wantsAt hasS at hw
            have h3 := hr k hk
            simp only [Bool.and_eq_true, Bool.or_eq_true, beq_iff_eq, decide_eq_true_eq] at hw
            have hk1 : (p.js.getD k pj0).st = 1 := by omega
            exact hx ⟨k, hk, hk1, by omega⟩
        · exact hroom m (by omega) (by omega)
      rw [this] at hg
      simp at hg
theorem live {p : PS} (h : Stl p) (hD : DecJ p.js) : ∀ i, i < p.js.length → (p.js.getD i pj0).st < 3 → ∃ k, k < p.js.length ∧ (p.js.getD k pj0).st = 2 := by
  intro i
  induction i using Nat.strongRecOn with
  | ind i ih =>
    intro hi hs
    by_cases hr : ∃ k, k < p.js.length ∧ (p.js.getD k pj0).st = 2
    · exact hr
    · exfalso
      have hr2 : ∀ k, k < p.js.length → (p.js.getD k pj0).st ≠ 2 := fun k hk e => hr ⟨k, hk, e⟩
      have : (p.js.getD i pj0).st = 0 ∨ (p.js.getD i pj0).st = 1 := by have := hr2 i hi; omega
      rcases this with e | e
      · have hv := hD.h i hi e
        obtain ⟨j, hj, hlt⟩ := (hD.c i hi).wt (stI p.js) (by rw [stI_len]; omega) h.ok.okl.are hv
        rw [stI_get p.js (by omega)] at hlt
        obtain ⟨k, hk, hk2⟩ := ih j hj (by omega) (by omega)
        exact hr ⟨k, hk, hk2⟩
      · exact live_q h hr2 (p.js.getD i pj0).sa.toNat i hi e (by omega)

/-- The time that a job may still run. -/
def remJ (now : Int) (j : PJ) : Nat := if j.st ≤ 1 then j.tm else if j.st = 2 then (j.sa + (j.tm : Int) - now).toNat else 0
def muN (now : Int) (js : List PJ) : Nat → Nat
  | 0 => 0
  | n + 1 => muN now js n + remJ now (js.getD n pj0)
theorem mu_le {a b : Int} {js js' : List PJ} : ∀ n, (∀ i, i < n → remJ b (js'.getD i pj0) ≤ remJ a (js.getD i pj0)) → muN b js' n ≤ muN a js n := by
  intro n
  induction n with
  | zero => intro _; exact Nat.le_refl _
  | succ n ih =>
    intro h
    have := ih (fun i hi => h i (by omega))
    have := h n (by omega)
    unfold muN
    omega
theorem mu_lt {a b : Int} {js js' : List PJ} : ∀ n, (∀ i, i < n → remJ b (js'.getD i pj0) ≤ remJ a (js.getD i pj0)) → ∀ k, k < n → remJ b (js'.getD k pj0) < remJ a (js.getD k pj0) → muN b js' n < muN a js n := by
  intro n
  induction n with
  | zero => intro _ k hk; omega
  | succ n ih =>
    intro h k hk hl
    unfold muN
    by_cases e : k = n
    · subst e
      have := mu_le (a := a) (b := b) k (fun i hi => h i (by omega))
      omega
    · have := ih (fun i hi => h i (by omega)) k (by omega) hl
      have := h n (by omega)
      omega
theorem mu_pos {a : Int} {js : List PJ} : ∀ n, 0 < muN a js n → ∃ i, i < n ∧ 0 < remJ a (js.getD i pj0) := by
  intro n
  induction n with
  | zero => intro h; simp [muN] at h
  | succ n ih =>
    intro h
    unfold muN at h
    by_cases e : 0 < remJ a (js.getD n pj0)
    · exact ⟨n, by omega, e⟩
    · obtain ⟨i, hi, h2⟩ := ih (by omega)
      exact ⟨i, by omega, h2⟩
theorem mu_zero {a : Int} {js : List PJ} : ∀ n, muN a js n = 0 → ∀ i, i < n → remJ a (js.getD i pj0) = 0 := by
  intro n
  induction n with
  | zero => intro _ i hi; omega
  | succ n ih =>
    intro h i hi
    unfold muN at h
    by_cases e : i = n
    · subst e; omega
    · exact ih (by omega) i (by omega)
/-- What Ends adds up. -/
def sumE (js : List PJ) : Nat → Nat
  | 0 => 0
  | n + 1 => sumE js n + (if (js.getD n pj0).st < 3 then (js.getD n pj0).tm else 0)
theorem rem_tm {nodes : Nat} {now : Int} {j : PJ} (h : Tmly nodes now j) : remJ now j ≤ if j.st < 3 then j.tm else 0 := by
  unfold remJ
  split
  · rw [if_pos (by omega)]; exact Nat.le_refl _
  split
  · rename_i e
    have := (h.s2 e)
    rw [if_pos (by omega)]
    omega
  · omega
theorem mu_sum {p : PS} (h : Stl p) : ∀ n, n ≤ p.js.length → muN p.now p.js n ≤ sumE p.js n := by
  intro n
  induction n with
  | zero => intro _; exact Nat.le_refl _
  | succ n ih =>
    intro hn
    have := ih (by omega)
    have := rem_tm (h.f.t n (by omega))
    unfold muN sumE
    omega
theorem rem_zero {nodes : Nat} {now : Int} {j : PJ} (h : Tmly nodes now j) (hz : remJ now j = 0) : 3 ≤ j.st := by
  unfold remJ at hz
  have := h.tm
  split at hz
  · omega
  split at hz
  · rename_i e
    have := h.s2 e
    unfold overJ at this
    omega
  · omega
theorem rem_step {nodes : Nat} {now now' : Int} {j k : PJ} (h : Tmly nodes now j) (h' : Tmly nodes now' k) (hk : KeptJ now' j k) (ht : k.tm = j.tm) (hn : now ≤ now') : remJ now' k ≤ remJ now j ∧ (j.st = 2 → now < now' → remJ now' k < remJ now j) := by
  have g := rem_tm h'
  by_cases e3 : 3 ≤ j.st
  · have := hk.e e3
    have z : remJ now' k = 0 := by unfold remJ; rw [if_neg (by omega), if_neg (by omega)]
    exact ⟨by omega, fun q => by omega⟩
  · by_cases e2 : j.st = 2
    · obtain ⟨q1, q2, q3⟩ := hk.r e2
      have s := h.s2 e2
      unfold overJ at s
      have z : remJ now j = (j.sa + (j.tm : Int) - now).toNat := by unfold remJ; rw [if_neg (by omega), if_pos e2]
      by_cases k2 : k.st = 2
      · have z' : remJ now' k = (j.sa + (j.tm : Int) - now').toNat := by unfold remJ; rw [if_neg (by omega), if_pos k2, q1, ht]
        exact ⟨by omega, fun _ _ => by omega⟩
      · have z' : remJ now' k = 0 := by unfold remJ; rw [if_neg (by omega), if_neg k2]
        exact ⟨by omega, fun _ _ => by omega⟩
    · have z : remJ now j = j.tm := by unfold remJ; rw [if_pos (by omega)]
      refine ⟨?_, fun q => absurd q e2⟩
      rw [z, ← ht]
      split at g <;> omega
theorem nt_of {x y : WS} (h : WOK x) (h' : WOK y) (hm : y.ms = x.ms) : y.p.js.length = x.p.js.length ∧ ∀ i, i < x.p.js.length → (y.p.js.getD i pj0).tm = (x.p.js.getD i pj0).tm := by
  have e : y.p.js.map ntJ = x.p.js.map ntJ := by rw [h'.wi.jn, h.wi.jn, hm]
  have hl : y.p.js.length = x.p.js.length := by simpa using congrArg List.length e
  refine ⟨hl, fun i hi => ?_⟩
  have := congrArg (fun l => l[i]?) e
  simp only [List.getElem?_map, List.getElem?_eq_getElem hi, List.getElem?_eq_getElem (show i < y.p.js.length by omega), Option.map_some] at this
  have := congrArg Prod.snd (Option.some.inj this)
  rw [getD_get hi, getD_get (by omega)]
  exact this
/-- One unit of time. -/
def tik1 : Mv := ⟨4, 0, 0, ⟨#[]⟩⟩
theorem step_ms {x : WS} {m : Mv} (h : m.kind ≠ 1) : (stepW x m).ms = x.ms := by
  unfold stepW
  rw [if_neg h]
  split
  · split <;> rfl
  split
  · cases amgF false x.p.js m.a <;> rfl
  split
  · cases amgF true x.p.js m.a <;> rfl
  · rfl
theorem pik0 : pikD 0 % 9 = 0 := by unfold pikD; decide
theorem tik_now {x : WS} (h : WOK x) (hn : x.p.now + 1 ≤ 3000) : stepW x tik1 = ⟨tickN x.p 1, x.ms, x.bn⟩ ∧ (stepW x tik1).p.now = x.p.now + 1 := by
  have e : stepW x tik1 = ⟨tickN x.p 1, x.ms, x.bn⟩ := by
    unfold stepW tik1
    rw [if_neg (by decide), if_pos rfl]
    dsimp only
    rw [pik0, if_neg (by omega)]
  refine ⟨e, ?_⟩
  rw [e]
  rfl
theorem fin_now {x : WS} {m : Mv} (h : WOK x) (hk : m.kind = 2 ∨ m.kind = 3) : (stepW x m).p.now = x.p.now := by
  unfold stepW
  rw [if_neg (by omega), if_neg (by omega)]
  split
  · cases hA : amgF false x.p.js m.a with
    | none => rfl
    | some id =>
      unfold amgF at hA
      split at hA
      · simp at hA
      obtain ⟨a1, a2, a3⟩ := amgN_some _ hA
      have hst : (x.p.js.getD id pj0).st = 2 := by unfold amgB at a2; simpa using a2
      obtain ⟨q, f1, f2, f3, _⟩ := finish_set h.wi.st (decide (pikD m.b % 2 = 1)) a1 hst
      dsimp only
      rw [f1]
      exact f3
  split
  · cases hA : amgF true x.p.js m.a with
    | none => rfl
    | some id =>
      unfold amgF at hA
      split at hA
      · simp at hA
      obtain ⟨a1, a2, a3⟩ := amgN_some _ hA
      have hst : (x.p.js.getD id pj0).st ≤ 2 := by unfold amgB at a2; simp at a2; simp; omega
      obtain ⟨q, f1, f2, f3, _⟩ := cancel_set h.wi.st a1 hst
      dsimp only
      rw [f1]
      exact f3
  · rfl
def muW (x : WS) : Nat := muN x.p.now x.p.js x.p.js.length
theorem tik_mu {x : WS} (h : WOK x) (hD : DecJ x.p.js) (hn : x.p.now + 1 ≤ 3000) : muW (stepW x tik1) ≤ muW x - 1 := by
  obtain ⟨a, b, c, d⟩ := step_ok h tik1
  obtain ⟨_, e⟩ := tik_now h hn
  obtain ⟨l, t⟩ := nt_of h a (step_ms (by show (4 : Int) ≠ 1; decide))
  have rs : ∀ i, i < x.p.js.length → remJ (stepW x tik1).p.now ((stepW x tik1).p.js.getD i pj0) ≤ remJ x.p.now (x.p.js.getD i pj0) ∧ ((x.p.js.getD i pj0).st = 2 → remJ (stepW x tik1).p.now ((stepW x tik1).p.js.getD i pj0) < remJ x.p.now (x.p.js.getD i pj0)) := by
    intro i hi
    have t1 := h.wi.st.f.t i hi
    have t2 := a.wi.st.f.t i (by omega)
    rw [b] at t2
    obtain ⟨q1, q2⟩ := rem_step t1 t2 (d i hi) (t i hi) (by omega)
    exact ⟨q1, fun q => q2 q (by omega)⟩
  unfold muW
  rw [l]
  by_cases hp : 0 < muN x.p.now x.p.js x.p.js.length
  · obtain ⟨i, hi, hr⟩ := mu_pos _ hp
    have hs : (x.p.js.getD i pj0).st < 3 := by
      unfold remJ at hr
      split at hr
      · omega
      split at hr
      · omega
      · omega
    obtain ⟨k, hk, hk2⟩ := live h.wi.st hD i hi hs
    have := mu_lt _ (fun i hi => (rs i hi).1) k hk ((rs k hk).2 hk2)
    omega
  · have := mu_le _ (fun i hi => (rs i hi).1)
    omega
theorem fin_mu {x : WS} {m : Mv} (h : WOK x) (hk : m.kind = 2 ∨ m.kind = 3) : muW (stepW x m) ≤ muW x := by
  obtain ⟨a, b, c, d⟩ := step_ok h m
  have e := fin_now h hk
  obtain ⟨l, t⟩ := nt_of h a (step_ms (by omega))
  unfold muW
  rw [l]
  refine mu_le _ ?_
  intro i hi
  have t1 := h.wi.st.f.t i hi
  have t2 := a.wi.st.f.t i (by omega)
  rw [b] at t2
  exact (rem_step t1 t2 (d i hi) (t i hi) (by omega)).1
/-- Time goes by, with later ends between. -/
def pastW (x : WS) (L : List Mv) : Nat → WS
  | 0 => x
  | n + 1 => if n < L.length ∧ ((L.getD n tik1).kind = 2 ∨ (L.getD n tik1).kind = 3) then stepW (stepW (pastW x L n) tik1) (L.getD n tik1) else stepW (pastW x L n) tik1
theorem past_ok {x : WS} (h : WOK x) (hD : DecJ x.p.js) (L : List Mv) : ∀ n : Nat, x.p.now + (n : Int) ≤ 3000 → WOK (pastW x L n) ∧ DecJ (pastW x L n).p.js ∧ (pastW x L n).p.now = x.p.now + (n : Int) ∧ muW (pastW x L n) ≤ muW x - n ∧ (pastW x L n).p.nodes = x.p.nodes ∧ (pastW x L n).p.js.length = x.p.js.length := by
  intro n
  induction n with
  | zero => intro _; exact ⟨h, hD, by simp [pastW], Nat.le_refl _, rfl, rfl⟩
  | succ n ih =>
    intro hn
    obtain ⟨a, b, c, d, e, f⟩ := ih (by omega)
    have a1 := (step_ok a tik1).1
    have a2 := (step_ok a tik1).2.1
    have b1 := step_dec a b tik1
    have c1 := (tik_now a (by omega)).2
    have d1 := tik_mu a b (by omega)
    have f1 := (nt_of a a1 (step_ms (by show (4 : Int) ≠ 1; decide))).1
    unfold pastW
    split
    · rename_i hc
      have a3 := (step_ok a1 (L.getD n tik1)).1
      have f3 := (nt_of a1 a3 (step_ms (by omega))).1
      refine ⟨a3, step_dec a1 b1 _, ?_, ?_, ?_, by omega⟩
      · rw [fin_now a1 hc.2, c1, c]; omega
      · have := fin_mu a1 hc.2; omega
      · rw [(step_ok a1 (L.getD n tik1)).2.1, a2, e]
    · exact ⟨a1, b1, by rw [c1, c]; omega, by omega, by rw [a2, e], by omega⟩
theorem past_end {x : WS} (h : WOK x) (hD : DecJ x.p.js) (L : List Mv) (hn : x.p.now + (sumE x.p.js x.p.js.length : Int) ≤ 3000) : ∀ i, i < x.p.js.length → 3 ≤ ((pastW x L (sumE x.p.js x.p.js.length)).p.js.getD i pj0).st := by
  obtain ⟨a, b, c, d, e, f⟩ := past_ok h hD L (sumE x.p.js x.p.js.length) hn
  have hm : muW x ≤ sumE x.p.js x.p.js.length := mu_sum h.wi.st _ (Nat.le_refl _)
  intro i hi
  have hz := mu_zero _ (show muN (pastW x L (sumE x.p.js x.p.js.length)).p.now (pastW x L (sumE x.p.js x.p.js.length)).p.js (pastW x L (sumE x.p.js x.p.js.length)).p.js.length = 0 from by
    show muW (pastW x L (sumE x.p.js x.p.js.length)) = 0
    omega) i (by omega)
  exact rem_zero (a.wi.st.f.t i (by omega)) hz
theorem run_zero {js : List PJ} : ∀ n, (∀ i, i < n → 3 ≤ (js.getD i pj0).st) → runN js n = 0 := by
  intro n
  induction n with
  | zero => intro _; rfl
  | succ n ih =>
    intro h
    have := h n (by omega)
    unfold runN
    rw [ih (fun i hi => h i (by omega)), if_neg (by omega)]
end Go.Proofs.YtanknpmojblmcaaGreatDoor

/-
  What a head waits for, by its making: its parts are worth what its tree is worth, and its code.
-/
set_option linter.unusedSimpArgs false
set_option linter.unusedVariables false
namespace Go.Proofs.YtanknpmojblmcaaGreatDoor

abbrev Pt := Nat × Nat × Nat
/-- One part: a hand of values. -/
def stepP (st : List Int) (S : List Nat) (p : Pt) : List Nat :=
  if p.1 = 5 ∨ p.1 = 6 then (match S with
    | b :: a :: R => joinV p.1 a b :: R
    | _ => S)
  else allV st p.1 ((List.range p.2.2).map (p.2.1 + ·)) :: S
def runP (st : List Int) : List Pt → List Nat → List Nat
  | [], S => S
  | p :: r, S => runP st r (stepP st S p)
theorem runP_app (st : List Int) (a b : List Pt) : ∀ S, runP st (a ++ b) S = runP st b (runP st a S) := by
  induction a with
  | nil => intro S; rfl
  | cons p r ih => intro S; exact ih _
def valP (st : List Int) (ps : List Pt) : Nat := if ps = [] then 1 else (runP st ps []).getD 0 0
/-- Parts that lay one value. -/
def PushP (st : List Int) (ps : List Pt) (v : Nat) : Prop := ∀ S, runP st ps S = v :: S
theorem PushP.val {st : List Int} {ps : List Pt} {v : Nat} (h : PushP st ps v) : valP st ps = v := by
  unfold valP
  have e := h []
  rw [if_neg, e]
  · rfl
  · intro q
    rw [q] at e
    simp [runP] at e
theorem allV_app (ns : List Int) (op : Nat) (a b : List Nat) : allV ns op (a ++ b) = vAnd (allV ns op a) (allV ns op b) := by
  induction a with
  | nil => show allV ns op b = vAnd 1 (allV ns op b); rw [vAnd_one (allV_le _ _ _)]
  | cons j r ih =>
    show vAnd (askV ns op j) (allV ns op (r ++ b)) = vAnd (vAnd (askV ns op j) (allV ns op r)) (allV ns op b)
    rw [ih, vAnd_assoc (askV_le _ _ _) (allV_le _ _ _) (allV_le _ _ _)]
theorem push_sgl (st : List Int) (hb : Nat) (nm : List UInt8) : ∀ (ms : List MB) (v : Nat) (S : List Nat), v ≤ 2 →
    runP st (ms.flatMap fun g => if g.batch < hb ∧ g.job.name = nm then [(4, g.first, g.count), (5, 0, 0)] else []) (v :: S) = vAnd v (allV st 4 (ms.flatMap fun g => if g.batch < hb ∧ g.job.name = nm then (List.range g.count).map (g.first + ·) else [])) :: S := by
  intro ms
  induction ms with
  | nil => intro v S hv; show v :: S = vAnd v 1 :: S; rw [vAnd_x1 hv]
  | cons g r ih =>
    intro v S hv
    rw [List.flatMap_cons, List.flatMap_cons, runP_app, allV_app]
    by_cases h : g.batch < hb ∧ g.job.name = nm
    · rw [if_pos h, if_pos h]
      have e : runP st [(4, g.first, g.count), (5, 0, 0)] (v :: S) = vAnd v (allV st 4 ((List.range g.count).map (g.first + ·))) :: S := rfl
      rw [e, ih _ _ (vAnd_l2 _ _), vAnd_assoc hv (allV_le _ _ _) (allV_le _ _ _)]
    · rw [if_neg h, if_neg h]
      show runP st _ (v :: S) = vAnd v (vAnd 1 _) :: S
      rw [ih _ _ hv, vAnd_one (allV_le _ _ _)]

theorem runP_one {st : List Int} {op f c : Nat} {S : List Nat} (h : ¬ (op = 5 ∨ op = 6)) : runP st [(op, f, c)] S = allV st op ((List.range c).map (f + ·)) :: S := by
  show stepP st S (op, f, c) = _
  unfold stepP
  rw [if_neg h]
variable {ms ns : List MB} {bn bj nodes : Nat} {T : List UInt8} {hs : List HV}

theorem BatOf.meantE (B : BatOf ms bn bj nodes T ns hs) (hb : ∀ m ∈ ms, m.batch ≤ bn) {k : Nat} (hk : k < ns.length) {nm : List UInt8} {x : Nat} (h1 : latB (ms ++ ns.take k) nm (ms ++ ns.take k).length = some x) (h2 : ¬ (((ms ++ ns.take k).getD x mb0).batch < bn + 1 ∧ nm ∈ onL (kB T) (nB T))) :
    meantG (ms.map grpM) (ns.map grpM) nm = some (grpM ((ms ++ ns.take k).getD x mb0)) := by
  have hl : (ms ++ ns.take k).length = ms.length + k := by simp; omega
  obtain ⟨q1, q2, q3⟩ := latB_some h1
  rw [hl] at q1 q2
  have hnn := B.nn
  have hol := B.ol
  have hname : ∀ j, j < ns.length → (ns.map grpM)[j]?.map (·.name) = some ((onL (kB T) (nB T)).getD j []) := by
    intro j hj
    rw [List.getElem?_map, List.getElem?_eq_getElem hj, ← hnn j hj]
    simp [hj, grpM]
  have huniq : ∀ i j, i < ns.length → j < ns.length → (onL (kB T) (nB T)).getD i [] = (onL (kB T) (nB T)).getD j [] → i = j := by
    intro i j hi hj he
    have hi' : i < (onL (kB T) (nB T)).length := by omega
    have hj' : j < (onL (kB T) (nB T)).length := by omega
    rw [show (onL (kB T) (nB T)).getD i [] = (onL (kB T) (nB T))[i] from by simp [hi'], show (onL (kB T) (nB T)).getD j [] = (onL (kB T) (nB T))[j] from by simp [hj']] at he
    have hp := List.pairwise_iff_getElem.mp B.nd
    rcases Nat.lt_trichotomy i j with q | q | q
    · exact absurd he (hp i j hi' hj' q)
    · exact q
    · exact absurd he.symm (hp j i hj' hi' q)
  by_cases hx : x < ms.length
  · have e : (ms ++ ns.take k).getD x mb0 = ms.getD x mb0 := by simp [List.getElem?_append, hx]
    rw [e] at h2 q3 ⊢
    have hbx := hb _ (getD_mem hx)
    have hno : nm ∉ onL (kB T) (nB T) := fun q => h2 ⟨by omega, q⟩
    have hn : latN (ns.map grpM) nm ns.length = none := by
      refine latN_none _ ?_
      intro j hj he
      rw [hname j hj] at he
      have he := Option.some.inj he
      apply hno
      have hj' : j < (onL (kB T) (nB T)).length := by omega
      rw [← he, show (onL (kB T) (nB T)).getD j [] = (onL (kB T) (nB T))[j] from by simp [hj']]
      exact List.getElem_mem hj'
    have hm : latN (ms.map grpM) nm (ms.map grpM).length = some x := by
      rw [latB_latN, hl] at h1
      rw [latN_more ms.length (ms.length + k) (by omega)] at h1
      · rw [List.length_map, ← h1]
        refine latN_take _ ?_
        intro j hj
        rw [List.map_append, List.getElem?_append_left (by simpa using hj)]
      · intro j j1 j2 he
        rw [List.map_append, List.getElem?_append_right (by simpa using j1), List.length_map] at he
        have hj : j - ms.length < k := by omega
        have e2 : ((ns.take k).map grpM)[j - ms.length]? = (ns.map grpM)[j - ms.length]? := by
          rw [List.map_take, List.getElem?_take_of_lt hj]
        rw [e2, hname _ (by omega)] at he
        have he := Option.some.inj he
        apply hno
        have hj' : j - ms.length < (onL (kB T) (nB T)).length := by omega
        rw [← he, show (onL (kB T) (nB T)).getD (j - ms.length) [] = (onL (kB T) (nB T))[j - ms.length] from by simp [hj']]
        exact List.getElem_mem hj'
    unfold meantG
    rw [List.length_map, hn]
    dsimp only
    rw [hm]
    dsimp only
    rw [List.getElem?_map, List.getElem?_eq_getElem hx]
    simp [hx]
  · have hi : x - ms.length < k := by omega
    have e : (ms ++ ns.take k).getD x mb0 = ns.getD (x - ms.length) mb0 := by
      simp only [List.getD_eq_getElem?_getD]
      rw [List.getElem?_append_right (by omega), List.getElem?_take_of_lt hi]
    rw [e] at q3 ⊢
    have hm : latN (ns.map grpM) nm ns.length = some (x - ms.length) := by
      refine latN_only _ (by omega) ?_ ?_
      · rw [hname _ (by omega), ← hnn _ (by omega), q3]
      · intro j hj hne he
        rw [hname _ hj] at he
        have he := Option.some.inj he
        apply hne
        refine huniq j _ hj (by omega) ?_
        rw [he, ← hnn _ (by omega), q3]
    unfold meantG
    rw [List.length_map, hm]
    dsimp only
    have hlt : x - ms.length < ns.length := by omega
    rw [List.getElem?_map, List.getElem?_eq_getElem hlt]
    simp [hlt]

theorem BatOf.earl (B : BatOf ms bn bj nodes T ns hs) (hb : ∀ m ∈ ms, m.batch ≤ bn) {k : Nat} (hk : k < ns.length) (nm : List UInt8) :
    ((ms ++ ns.take k).flatMap fun g => if g.batch < bn + 1 ∧ g.job.name = nm then (List.range g.count).map (g.first + ·) else []) = earlG (ms.map grpM) nm := by
  rw [List.flatMap_append]
  have e1 : (ns.take k).flatMap (fun g => if g.batch < bn + 1 ∧ g.job.name = nm then (List.range g.count).map (g.first + ·) else []) = [] := by
    rw [List.flatMap_eq_nil_iff]
    intro g hg
    obtain ⟨j, hj, rfl⟩ := List.getElem_of_mem (List.mem_of_mem_take hg)
    have := (B.hd j hj).bt
    rw [show ns.getD j mb0 = ns[j] from by simp [hj]] at this
    rw [if_neg (by omega)]
  rw [e1, List.append_nil]
  unfold earlG
  rw [List.flatMap_map]
  have : ∀ l : List MB, (∀ m ∈ l, m.batch ≤ bn) → l.flatMap (fun g => if g.batch < bn + 1 ∧ g.job.name = nm then (List.range g.count).map (g.first + ·) else []) = l.flatMap (fun a => if (grpM a).name = nm then (List.range (grpM a).count).map ((grpM a).first + ·) else []) := by
    intro l
    induction l with
    | nil => intro _; rfl
    | cons g r ih =>
      intro h
      rw [List.flatMap_cons, List.flatMap_cons, ih (fun m hm => h m (by simp [hm]))]
      congr 1
      have := h g (by simp)
      by_cases q : g.job.name = nm
      · rw [if_pos ⟨by omega, q⟩, if_pos (show (grpM g).name = nm from q)]; rfl
      · rw [if_neg (fun z => q z.2), if_neg (show ¬ (grpM g).name = nm from q)]
  exact this ms hb
theorem BatOf.atom (B : BatOf ms bn bj nodes T ns hs) (hb : BkOK ms bn bj) {k : Nat} (hk : k < ns.length) (nm : List UInt8) (st : List Int) (i : Nat) :
    PushP st (atomF (ms ++ ns.take k) (onL (kB T) (nB T)) (bn + 1) nm T i).2.1 (valT (ms.map grpM) (ns.map grpM) nm st (atomF (ms ++ ns.take k) (onL (kB T) (nB T)) (bn + 1) nm T i).1) := by
  unfold atomF
  cases ha : askB (ms ++ ns.take k) (onL (kB T) (nB T)) (bn + 1) (nxV T i 5) with
  | none =>
    dsimp only
    intro S
    unfold sglP
    have e : ∀ L, runP st ((0, 0, 0) :: L) S = runP st L (1 :: S) := fun L => rfl
    rw [e, push_sgl _ _ _ _ _ _ (by omega), B.earl hb.bat hk, vAnd_one (allV_le _ _ _)]
    rfl
  | some x =>
    obtain ⟨a1, a2⟩ := askB_some ha
    obtain ⟨q1, q2, q3⟩ := latB_some a1
    rw [q3] at a2
    have hm := B.meantE hb.bat hk a1 a2
    dsimp only
    obtain ⟨g, hg⟩ : ∃ g, g = (ms ++ ns.take k).getD x mb0 := ⟨_, rfl⟩
    rw [← hg] at hm q3 ⊢
    rw [← q3] at hm
    have h3 := nxV_lt T (nxI T i) (n := 3) (by omega)
    split
    · split
      · intro S
        dsimp only
        rw [runP_one (by omega)]
        show allV st _ _ :: S = allV st _ _ :: S
        rw [hm]
        congr 2
        show [g.first + nxV T _ _ + 0] = [(grpM g).first + (g.job.lo + nxV T _ _) - (grpM g).lo]
        rename_i h1 _
        have e1 : (grpM g).first = g.first := rfl
        have e2 : (grpM g).lo = g.job.lo := by simp [grpM, h1]
        rw [e1, e2]
        congr 1
        omega
      · intro S
        dsimp only
        rw [runP_one (by omega)]
        show allV st _ _ :: S = allV st _ _ :: S
        rw [hm]
        rfl
    · intro S
      dsimp only
      rw [runP_one (by omega)]
      show allV st _ _ :: S = allV st _ _ :: S
      rw [hm]
      rfl
theorem stW_ne (t : WT) : stW t ≠ [] := by
  cases t with
  | sg => simp [stW]
  | rf k nm o => simp [stW]
  | an s t =>
    intro h
    simp only [stW] at h
    exact stW_ne s (List.append_eq_nil_iff.1 h).1
  | or s t => simp [stW]
theorem BatOf.wantV (B : BatOf ms bn bj nodes T ns hs) (hb : BkOK ms bn bj) {k : Nat} (hk : k < ns.length) (nm : List UInt8) (st : List Int) : ∀ d i,
    PushP st (wantB (ms ++ ns.take k) (onL (kB T) (nB T)) (bn + 1) nm T d i).2.1 (valT (ms.map grpM) (ns.map grpM) nm st (wantB (ms ++ ns.take k) (onL (kB T) (nB T)) (bn + 1) nm T d i).1) := by
  intro d
  induction d with
  | zero => intro i; unfold wantB; exact B.atom hb hk nm st _
  | succ d ih =>
    intro i
    unfold wantB
    split
    · exact B.atom hb hk nm st _
    · intro S
      dsimp only
      rw [runP_app, runP_app, ih _ S, ih _ _]
      by_cases h : nxV T i 6 = 5
      · rw [if_pos h, if_pos h]; rfl
      · rw [if_neg h, if_neg h]; rfl

/-- The heads of a batch, as they were made. -/
theorem batN_heads (own : List (List UInt8)) (b nodes n : Nat) (T : List UInt8) (s : BS) : ∀ k, ∃ l : List MB, (batN own b nodes n T s k).ms = s.ms ++ l ∧ l.length = k ∧ ∀ j, j < k → ∃ i q, l.getD j mb0 = (headB (s.ms ++ l.take j) own b q nodes j T i).1 := by
  intro k
  induction k with
  | zero => exact ⟨[], by simp [batN], rfl, fun j hj => by omega⟩
  | succ k ih =>
    obtain ⟨l, h1, h2, h3⟩ := ih
    refine ⟨l ++ [(headB (batN own b nodes n T s k).ms own b (batN own b nodes n T s k).jobs nodes k T (nxI T (batN own b nodes n T s k).at_)).1], ?_, by simp [h2], ?_⟩
    · show (batN own b nodes n T s k).ms ++ [_] = _
      rw [h1, List.append_assoc]
    · intro j hj
      by_cases e : j < k
      · obtain ⟨i, q, hq⟩ := h3 j e
        refine ⟨i, q, ?_⟩
        rw [show (l ++ [(headB (batN own b nodes n T s k).ms own b (batN own b nodes n T s k).jobs nodes k T (nxI T (batN own b nodes n T s k).at_)).1]).getD j mb0 = l.getD j mb0 from by simp [List.getElem?_append, h2, e], hq, List.take_append_of_le_length (by omega)]
      · have e : j = k := by omega
        subst e
        refine ⟨nxI T (batN own b nodes n T s j).at_, (batN own b nodes n T s j).jobs, ?_⟩
        rw [List.take_append_of_le_length (by omega), List.take_of_length_le (by omega), ← h1]
        simp [List.getElem?_append, h2]
theorem BatOf.headOf (B : BatOf ms bn bj nodes T ns hs) {k : Nat} (hk : k < ns.length) : ∃ i q, ns.getD k mb0 = (headB (ms ++ ns.take k) (onL (kB T) (nB T)) (bn + 1) q nodes k T i).1 := by
  obtain ⟨l, h1, h2, h3⟩ := batN_heads (onL (kB T) (nB T)) (bn + 1) nodes (nB T) T ⟨[], ms, bj, nxI T (nxI T 0)⟩ (nB T)
  have e : ms ++ l = ms ++ ns := by rw [← B.mm, ← h1]; rfl
  have e := List.append_cancel_left e
  subst e
  exact h3 k (by omega)
/-- What the parts are worth. -/
def treeV (before own : List GV) (st : List Int) (m : MB) : Nat := match m.tree with
  | none => 1
  | some t => valT before own m.job.name st t
theorem BatOf.partsV (B : BatOf ms bn bj nodes T ns hs) (hb : BkOK ms bn bj) {k : Nat} (hk : k < ns.length) (st : List Int) : valP st (ns.getD k mb0).parts = treeV (ms.map grpM) (ns.map grpM) st (ns.getD k mb0) := by
  obtain ⟨i, q, e⟩ := B.headOf hk
  have hn := B.nn k hk
  unfold treeV
  rw [hn, e]
  unfold headB
  split
  · rfl
  · exact (B.wantV hb hk _ st 2 _).val
theorem BatOf.codeV (B : BatOf ms bn bj nodes T ns hs) (hb : BkOK ms bn bj) {k : Nat} (hk : k < ns.length) (hl : (codeF (ms.map grpM) (ns.map grpM) (hs.getD k hv0)).length ≤ 8000) {st : List Int} (hs1 : bj + cntM (ns.take k) ≤ st.length) (hs2 : areS st = true) :
    runE (codeF (ms.map grpM) (ns.map grpM) (hs.getD k hv0)) st = (valP st (ns.getD k mb0).parts, 0) := by
  rw [B.partsV hb hk]
  obtain ⟨q1, _, _, _, _, _, q7⟩ := hvX_job (B.hv k hk)
  have H := B.hd k hk
  rw [codeF_X, q7] at hl ⊢
  unfold treeV
  split at hl
  · rename_i e
    rw [if_pos e]
    have e2 : (ns.getD k mb0).tree = none := by
      unfold stM at e
      cases ht : (ns.getD k mb0).tree with
      | none => rfl
      | some t =>
        rw [ht] at e
        exact absurd e (by simpa using stW_ne t)
    rw [e2]
    exact push_run (push_true st) (by omega) (by simp) hs2
  · rename_i e
    rw [if_neg e]
    unfold stM at *
    cases ht : (ns.getD k mb0).tree with
    | none => rw [ht] at e; simp at e
    | some t =>
      rw [ht] at hl
      obtain ⟨a, b⟩ := H.good.tr t ht
      have hi := B.inT hb (ns.getD k mb0).job.name hk t b (H.rf t ht)
      dsimp only
      rw [q1] at hl ⊢
      exact push_run (push_tree (areS_len hs2) t (InT.up hs1 t hi)).1 (by omega) hl hs2
end Go.Proofs.YtanknpmojblmcaaGreatDoor

/-
  The codes of all jobs are worth what their heads' parts are worth, move by move.
-/
set_option linter.unusedSimpArgs false
set_option linter.unusedVariables false
namespace Go.Proofs.YtanknpmojblmcaaGreatDoor

theorem jobB_at {ms : List MB} {bn bj id k : Nat} (h : BkOK ms bn bj) (h1 : cntM (ms.take k) ≤ id) (h2 : id < cntM (ms.take (k + 1))) : ∀ n, k < n → n ≤ ms.length → jobB ms id n = ms.getD k mb0 := by
  intro n
  induction n with
  | zero => intro hk; omega
  | succ n ih =>
    intro hk hn
    unfold jobB
    rw [h.fst n (by omega)]
    by_cases e : n = k
    · subst e; rw [if_pos h1]
    · have := cntM_take_mono ms (show k + 1 ≤ n by omega)
      rw [if_neg (by omega)]
      exact ih (by omega) (by omega)
/-- Codes and parts are worth the same. -/
def CVJ (js : List PJ) (ms : List MB) : Prop := ∀ i, i < js.length → ∀ st : List Int, i ≤ st.length → areS st = true → runE (js.getD i pj0).code st = (valP st (jobB ms i ms.length).parts, 0)
theorem CVJ.same {js js' : List PJ} {ms : List MB} (h : CVJ js ms) (hl : js'.length = js.length) (hc : ∀ i, i < js.length → (js'.getD i pj0).code = (js.getD i pj0).code) : CVJ js' ms := by
  intro i hi
  rw [hc i (by omega)]
  exact h i (by omega)
variable {ms ns : List MB} {bn bj nodes : Nat} {T : List UInt8} {hs : List HV}
theorem take_code (p : PS) (own : List GV) (hs : List HV) : ∀ n, n ≤ own.length → ∀ i, p.js.length ≤ i → i < (takeN p own hs n).length → ∃ k, k < n ∧ p.js.length + cntG (own.take k) ≤ i ∧ i < p.js.length + cntG (own.take (k + 1)) ∧ ((takeN p own hs n).getD i pj0).code = codeF p.gs own (hs.getD k hv0) := by
  intro n
  induction n with
  | zero => intro _ i h1 h2; simp [takeN] at h2; omega
  | succ n ih =>
    intro hn i h1 h2
    have hl := takeN_len p own hs n (by omega)
    have hl2 := takeN_len p own hs (n + 1) hn
    by_cases hi : i < (takeN p own hs n).length
    · obtain ⟨k, a, b, c, d⟩ := ih (by omega) i h1 hi
      refine ⟨k, by omega, b, c, ?_⟩
      unfold takeN
      rw [getD_app, if_pos hi]
      exact d
    · refine ⟨n, by omega, by omega, by omega, ?_⟩
      unfold takeN
      rw [getD_app, if_neg hi]
      have h3 : i - (takeN p own hs n).length < (own.getD n noG).count := by
        have : (takeN p own hs (n + 1)).length = (takeN p own hs n).length + (own.getD n noG).count := by
          conv => lhs; unfold takeN
          rw [List.length_append, List.length_replicate]
        omega
      rw [List.getD_eq_getElem?_getD, List.getElem?_replicate, if_pos h3]
      rfl
theorem sub_cv {p : PS} (h : WI p ms bn bj) (B : BatOf ms bn bj p.nodes T ns hs) (hn8 : p.nodes ≤ 8) (hC : CVJ p.js ms) (hc : bj + cntM ns ≤ 24) : CVJ (subF p (batF ms bn bj p.nodes T).text).1.js (ms ++ ns) := by
  have hl := h.len
  have hw := B.wide
  have hm := B.miss h.bk.bat
  have hr := B.ring h.bk.bat
  have ho := B.own
  have hcn : cntG (ns.map grpM) = cntM ns := cntG_map ns
  have hc24 : cntM ms ≤ 24 := by rw [h.bk.cnt, ← hl]; exact h.st.ok.n.ln
  have hsub : subF p (batF ms bn bj p.nodes T).text = if 24 < bj + cntM ns then (p, (8, 0, 0, 0), []) else (settleF (takeF p (ns.map grpM) hs), (0, 0, bj, cntM ns), []) := by
    unfold subF
    rw [B.rd]
    dsimp only
    rw [if_neg (by simp), hw]
    dsimp only
    rw [hl, ho, h.gs, hm]
    dsimp only
    rw [hr, if_neg (by simp), hcn]
  obtain ⟨L, t1, t2, t3⟩ := B.takes h.bk.good h.gs hc24 hn8 ns.length (Nat.le_refl _)
  rw [List.take_length] at t2
  have hLl : L.length = cntM ns := by
    have := congrArg List.length t2
    rw [List.length_map, jobsM_len] at this
    exact this
  have ht : takeF p (ns.map grpM) hs = { p with js := p.js ++ L, gs := p.gs ++ ns.map grpM } := by
    unfold takeF
    rw [B.hl, t1]
  obtain ⟨a, b⟩ := take_pok h.st t3 (by omega) (G := p.gs ++ ns.map grpM)
  obtain ⟨c, d⟩ := settle_set (p := { p with js := p.js ++ L, gs := p.gs ++ ns.map grpM }) a b
  rw [hsub, if_neg (by omega), ht]
  have hbk := B.bk h.bk
  refine CVJ.same (js := p.js ++ L) ?_ d.1 (fun i hi => (d.2 i hi).cd)
  intro i hi st s1 s2
  by_cases hip : i < p.js.length
  · rw [getD_app, if_pos hip]
    have e : ∀ n, jobB (ms ++ ns) i (ms.length + n) = jobB ms i ms.length ∨ ms.length + n > (ms ++ ns).length := by
      intro n
      induction n with
      | zero =>
        left
        have : ∀ k, k ≤ ms.length → jobB (ms ++ ns) i k = jobB ms i k := by
          intro k
          induction k with
          | zero => intro _; rfl
          | succ k ih =>
            intro hk
            unfold jobB
            rw [show (ms ++ ns).getD k mb0 = ms.getD k mb0 from by simp [List.getElem?_append, show k < ms.length by omega], ih (by omega)]
        exact this _ (Nat.le_refl _)
      | succ n ih =>
        by_cases q : ms.length + (n + 1) > (ms ++ ns).length
        · exact Or.inr q
        · left
          rcases ih with ih | ih
          · show (if ((ms ++ ns).getD (ms.length + n) mb0).first ≤ i then (ms ++ ns).getD (ms.length + n) mb0 else jobB (ms ++ ns) i (ms.length + n)) = _
            rw [if_neg, ih]
            have h1 := hbk.fst (ms.length + n) (by omega)
            rw [h1, List.take_append, List.take_of_length_le (l := ms) (by omega), cntM_app, h.bk.cnt]
            omega
          · omega
    have e2 : jobB (ms ++ ns) i (ms ++ ns).length = jobB ms i ms.length := by
      rcases e ns.length with e | e
      · rw [← e]; simp
      · simp at e
    rw [e2]
    exact hC i hip st s1 s2
  · have hi2 : i < (takeN p (ns.map grpM) hs ns.length).length := by rw [t1]; exact hi
    obtain ⟨k, k1, k2, k3, k4⟩ := take_code p (ns.map grpM) hs ns.length (by simp) i (by omega) hi2
    rw [← t1, k4, h.gs]
    rw [← List.map_take, cntG_map, hl] at k2 k3
    have hcl : (codeF (ms.map grpM) (ns.map grpM) (hs.getD k hv0)).length ≤ 8000 := by
      have := t3 ((p.js ++ L).getD i pj0) (by rw [getD_app, if_neg hip]; exact getD_in (by rw [List.length_append] at hi; omega))
      have := this.2.2.2.2.2.2
      rwa [← t1, k4, h.gs] at this
    have hj : jobB (ms ++ ns) i (ms ++ ns).length = ns.getD k mb0 := by
      have q1 : (ms ++ ns).take (ms.length + k) = ms ++ ns.take k := by rw [List.take_append, List.take_of_length_le (l := ms) (by omega)]; simp
      have q2 : (ms ++ ns).take (ms.length + k + 1) = ms ++ ns.take (k + 1) := by rw [List.take_append, List.take_of_length_le (l := ms) (by omega), show ms.length + k + 1 - ms.length = k + 1 from by omega]
      rw [jobB_at hbk (k := ms.length + k) (by rw [q1, cntM_app, h.bk.cnt]; exact k2) (by rw [q2, cntM_app, h.bk.cnt]; exact k3) _ (by simp; omega) (Nat.le_refl _)]
      simp only [List.getD_eq_getElem?_getD]
      rw [List.getElem?_append_right (by omega), show ms.length + k - ms.length = k from by omega]
    rw [hj]
    exact B.codeV h.bk k1 hcl (by omega) s2
theorem step_cv {x : WS} (h : WOK x) (hC : CVJ x.p.js x.ms) (m : Mv) : CVJ (stepW x m).p.js (stepW x m).ms := by
  unfold stepW
  split
  · obtain ⟨ns, hs, B⟩ := batF_ok (bn := x.bn) (bj := x.p.js.length) (T := m.s.data.toList) h.wi.bk.good h.n1 h.n8
    rw [B.jb]
    split
    · exact hC
    · rename_i hc
      dsimp only
      rw [B.mm]
      exact sub_cv h.wi B h.n8 hC (by omega)
  split
  · split
    · exact hC
    · rename_i hc
      have hn := h.wi.st.f.n0
      obtain ⟨_, b, _⟩ := tick_set h.wi.st (1 + pikD m.a % 9) (by omega)
      exact hC.same b.1 (fun i hi => (b.2 i hi).cd)
  split
  · cases hA : amgF false x.p.js m.a with
    | none => exact hC
    | some id =>
      unfold amgF at hA
      split at hA
      · simp at hA
      obtain ⟨a1, a2, a3⟩ := amgN_some _ hA
      have hst : (x.p.js.getD id pj0).st = 2 := by unfold amgB at a2; simpa using a2
      obtain ⟨q, e, _, _, _, _, b1, _, _, _, _, _, b2, b3⟩ := finish_set h.wi.st (decide (pikD m.b % 2 = 1)) a1 hst
      dsimp only
      rw [e]
      refine hC.same b1 (fun i hi => ?_)
      by_cases z : i = id
      · rw [z]; exact b2
      · exact (b3 i hi z).cd
  split
  · cases hA : amgF true x.p.js m.a with
    | none => exact hC
    | some id =>
      unfold amgF at hA
      split at hA
      · simp at hA
      obtain ⟨a1, a2, a3⟩ := amgN_some _ hA
      have hst : (x.p.js.getD id pj0).st ≤ 2 := by unfold amgB at a2; simp at a2; simp; omega
      obtain ⟨q, e, _, _, _, _, b1, _, _, _, _, _, b2, b3⟩ := cancel_set h.wi.st a1 hst
      dsimp only
      rw [e]
      refine hC.same b1 (fun i hi => ?_)
      by_cases z : i = id
      · rw [z]; exact b2
      · exact (b3 i hi z).cd
  · exact hC
/-- A move that takes no batch leaves the codes as they are. -/
theorem step_codes {x : WS} (h : WOK x) (m : Mv) (hb : (stepW x m).bn = x.bn) : (stepW x m).p.js.length = x.p.js.length ∧ ∀ i, i < x.p.js.length → ((stepW x m).p.js.getD i pj0).code = (x.p.js.getD i pj0).code := by
  have keep : ∀ (y : WS), x = y → (y.p.js.length = x.p.js.length ∧ ∀ i, i < x.p.js.length → (y.p.js.getD i pj0).code = (x.p.js.getD i pj0).code) := by intro y e; subst e; exact ⟨rfl, fun _ _ => rfl⟩
  revert hb
  unfold stepW
  split
  · split
    · intro _; exact keep _ rfl
    · intro q; dsimp only at q; omega
  split
  · split
    · intro _; exact keep _ rfl
    · rename_i hc
      have hn := h.wi.st.f.n0
      obtain ⟨_, b, _⟩ := tick_set h.wi.st (1 + pikD m.a % 9) (by omega)
      intro _
      exact ⟨b.1, fun i hi => (b.2 i hi).cd⟩
  split
  · cases hA : amgF false x.p.js m.a with
    | none => intro _; exact keep _ rfl
    | some id =>
      unfold amgF at hA
      split at hA
      · simp at hA
      obtain ⟨a1, a2, a3⟩ := amgN_some _ hA
      have hst : (x.p.js.getD id pj0).st = 2 := by unfold amgB at a2; simpa using a2
      obtain ⟨q, e, _, _, _, _, b1, _, _, _, _, _, b2, b3⟩ := finish_set h.wi.st (decide (pikD m.b % 2 = 1)) a1 hst
      dsimp only
      rw [e]
      intro _
      refine ⟨b1, fun i hi => ?_⟩
      by_cases z : i = id
      · rw [z]; exact b2
      · exact (b3 i hi z).cd
  split
  · cases hA : amgF true x.p.js m.a with
    | none => intro _; exact keep _ rfl
    | some id =>
      unfold amgF at hA
      split at hA
      · simp at hA
      obtain ⟨a1, a2, a3⟩ := amgN_some _ hA
      have hst : (x.p.js.getD id pj0).st ≤ 2 := by unfold amgB at a2; simp at a2; simp; omega
      obtain ⟨q, e, _, _, _, _, b1, _, _, _, _, _, b2, b3⟩ := cancel_set h.wi.st a1 hst
      dsimp only
      rw [e]
      intro _
      refine ⟨b1, fun i hi => ?_⟩
      by_cases z : i = id
      · rw [z]; exact b2
      · exact (b3 i hi z).cd
  · intro _; exact keep _ rfl
end Go.Proofs.YtanknpmojblmcaaGreatDoor

/-
  Parts that may be run: none asks for a job that there is not, none joins what was not laid.
-/
set_option linter.unusedSimpArgs false
set_option linter.unusedVariables false
namespace Go.Proofs.YtanknpmojblmcaaGreatDoor

def GdP (n : Nat) : List Pt → Nat → Prop
  | [], d => d = 1
  | p :: r, d => if p.1 = 5 ∨ p.1 = 6 then 2 ≤ d ∧ GdP n r (d - 1) else (p.1 ≤ 4 ∧ (p.1 = 0 → p.2.2 = 0) ∧ p.2.1 + p.2.2 ≤ n ∧ d < 20) ∧ GdP n r (d + 1)
theorem GdP.up {n m : Nat} (hm : n ≤ m) : ∀ (ps : List Pt) (d : Nat), GdP n ps d → GdP m ps d := by
  intro ps
  induction ps with
  | nil => intro d h; exact h
  | cons p r ih =>
    intro d h
    unfold GdP at h ⊢
    split
    · rename_i q; rw [if_pos q] at h; exact ⟨h.1, ih _ h.2⟩
    · rename_i q; rw [if_neg q] at h; exact ⟨⟨h.1.1, h.1.2.1, by have := h.1.2.2.1; omega, h.1.2.2.2⟩, ih _ h.2⟩
/-- Parts that lay one value, with room for h. -/
def PgP (n h : Nat) (ps : List Pt) : Prop := ∀ r d, d + h ≤ 20 → GdP n r (d + 1) → GdP n (ps ++ r) d
theorem gd_ask {n op f c d : Nat} {r : List Pt} (h1 : op ≤ 4) (h0 : op = 0 → c = 0) (h2 : f + c ≤ n) (h3 : d < 20) (h : GdP n r (d + 1)) : GdP n ((op, f, c) :: r) d := by
  unfold GdP
  rw [if_neg (by dsimp only; omega)]
  exact ⟨⟨h1, h0, h2, h3⟩, h⟩
theorem gd_join {n op d : Nat} {r : List Pt} (h1 : op = 5 ∨ op = 6) (h2 : 2 ≤ d) (h : GdP n r (d - 1)) : GdP n ((op, 0, 0) :: r) d := by
  unfold GdP
  rw [if_pos h1]
  exact ⟨h2, h⟩
theorem pg_sgl {n : Nat} (hb : Nat) (nm : List UInt8) : ∀ (ms : List MB), (∀ g ∈ ms, g.first + g.count ≤ n) → ∀ (r : List Pt) (d : Nat), d + 2 ≤ 20 → GdP n r (d + 1) →
    GdP n ((ms.flatMap fun g => if g.batch < hb ∧ g.job.name = nm then [(4, g.first, g.count), (5, 0, 0)] else []) ++ r) (d + 1) := by
  intro ms
  induction ms with
  | nil => intro _ r d _ h; exact h
  | cons g t ih =>
    intro hm r d hd h
    rw [List.flatMap_cons, List.append_assoc]
    have h1 := ih (fun x hx => hm x (by simp [hx])) r d hd h
    split
    · exact gd_ask (by omega) (by omega) (hm g (by simp)) (by omega) (gd_join (Or.inl rfl) (by omega) h1)
    · exact h1
variable {ms ns : List MB} {bn bj nodes : Nat} {T : List UInt8} {hs : List HV}
theorem BatOf.lows (B : BatOf ms bn bj nodes T ns hs) (hb : BkOK ms bn bj) {k : Nat} (hk : k < ns.length) : ∀ g ∈ ms ++ ns.take k, g.first + g.count ≤ bj + cntM (ns.take k) := by
  intro g hg
  rcases List.mem_append.1 hg with q | q
  · obtain ⟨x, hx, rfl⟩ := List.getElem_of_mem q
    have e : ms.getD x mb0 = ms[x] := by simp [hx]
    have := sum_take_le ms x hx
    have h2 := hb.fst x hx
    rw [e] at this h2
    have h3 := hb.cnt
    omega
  · obtain ⟨x, hx, rfl⟩ := List.getElem_of_mem q
    have hx' : x < k := by simp at hx; omega
    have hxn : x < ns.length := by omega
    have e : ns.getD x mb0 = ns[x] := by simp [hxn]
    have h3 := (B.hd x hxn).ft
    have h4 := cntM_take_mono ns (show x + 1 ≤ k by omega)
    rw [take_snoc ns hxn, cntM_app, e] at h4
    have h5 : cntM [ns[x]] = ns[x].count := by simp [cntM]
    rw [e] at h3
    rw [List.getElem_take]
    omega
theorem BatOf.atomG (B : BatOf ms bn bj nodes T ns hs) (hb : BkOK ms bn bj) {k : Nat} (hk : k < ns.length) (nm : List UInt8) (i : Nat) :
    PgP (bj + cntM (ns.take k)) 2 (atomF (ms ++ ns.take k) (onL (kB T) (nB T)) (bn + 1) nm T i).2.1 := by
  have hl := B.lows hb hk
  unfold atomF
  cases ha : askB (ms ++ ns.take k) (onL (kB T) (nB T)) (bn + 1) (nxV T i 5) with
  | none =>
    dsimp only
    intro r d hd h
    unfold sglP
    exact gd_ask (by omega) (fun _ => rfl) (by omega) (by omega) (pg_sgl _ _ _ hl r d hd h)
  | some x =>
    obtain ⟨a1, a2⟩ := askB_some ha
    obtain ⟨q1, q2, q3⟩ := latB_some a1
    have hg := hl _ (getD_mem q2)
    dsimp only
    obtain ⟨g, hgg⟩ : ∃ g, g = (ms ++ ns.take k).getD x mb0 := ⟨_, rfl⟩
    rw [← hgg] at hg ⊢
    have h3 := nxV_lt T (nxI T i) (n := 3) (by omega)
    split
    · split
      · intro r d hd h
        have hc : 1 ≤ g.count := by
          rw [hgg]
          rcases List.mem_append.1 (getD_mem q2) with q | q
          · exact (hb.good _ q).c1
          · obtain ⟨j, hj, e⟩ := List.getElem_of_mem (List.mem_of_mem_take q)
            have := (B.hd j hj).good.c1
            rw [show ns.getD j mb0 = ns[j] from by simp [hj], e] at this
            exact this
        have h4 := nxV_lt T (nxI T (nxI T (nxI T i))) (n := g.count) hc
        exact gd_ask (by omega) (by omega) (by omega) (by omega) h
      · intro r d hd h
        exact gd_ask (by omega) (by omega) hg (by omega) h
    · intro r d hd h
      exact gd_ask (by omega) (by omega) hg (by omega) h
theorem BatOf.wantG (B : BatOf ms bn bj nodes T ns hs) (hb : BkOK ms bn bj) {k : Nat} (hk : k < ns.length) (nm : List UInt8) : ∀ e i,
    PgP (bj + cntM (ns.take k)) (2 + e) (wantB (ms ++ ns.take k) (onL (kB T) (nB T)) (bn + 1) nm T e i).2.1 := by
  intro e
  induction e with
  | zero => intro i; unfold wantB; exact B.atomG hb hk nm _
  | succ e ih =>
    intro i
    unfold wantB
    split
    · intro r d hd h
      exact B.atomG hb hk nm _ r d (by omega) h
    · intro r d hd h
      dsimp only
      rw [List.append_assoc, List.append_assoc]
      refine ih _ _ d (by omega) (ih _ _ (d + 1) (by omega) ?_)
      refine gd_join ?_ (by omega) ?_
      · split
        · exact Or.inr rfl
        · exact Or.inl rfl
      · show GdP _ r (d + 1 + 1 - 1)
        exact h
/-- The parts of all heads may be run. -/
def PWF (ms : List MB) : Prop := ∀ k, k < ms.length → (ms.getD k mb0).parts = [] ∨ GdP (ms.getD k mb0).first (ms.getD k mb0).parts 0
theorem BatOf.pwf (B : BatOf ms bn bj nodes T ns hs) (hb : BkOK ms bn bj) (h : PWF ms) : PWF (ms ++ ns) := by
  intro k hk
  by_cases q : k < ms.length
  · rw [show (ms ++ ns).getD k mb0 = ms.getD k mb0 from by simp [List.getElem?_append, q]]
    exact h k q
  · have hk2 : k - ms.length < ns.length := by simp at hk; omega
    have e : (ms ++ ns).getD k mb0 = ns.getD (k - ms.length) mb0 := by
      simp only [List.getD_eq_getElem?_getD]
      rw [List.getElem?_append_right (by omega)]
    rw [e, (B.hd _ hk2).ft]
    obtain ⟨i, b, e2⟩ := B.headOf hk2
    rw [e2]
    unfold headB
    split
    · exact Or.inl rfl
    · right
      have := B.wantG hb hk2 ((onL (kB T) (nB T)).getD (k - ms.length) []) 2 (nxI T (faceB nodes ((onL (kB T) (nB T)).getD (k - ms.length) []) T i).2.2) [] 0 (by omega) rfl
      rw [List.append_nil] at this
      exact this
theorem step_pwf {x : WS} (h : WOK x) (hp : PWF x.ms) (m : Mv) : PWF (stepW x m).ms := by
  by_cases hk : m.kind = 1
  · unfold stepW
    rw [if_pos hk]
    obtain ⟨ns, hs, B⟩ := batF_ok (ms := x.ms) (bn := x.bn) (bj := x.p.js.length) (nodes := x.p.nodes) (T := m.s.data.toList) h.wi.bk.good h.n1 h.n8
    split
    · exact hp
    · dsimp only
      rw [B.mm]
      exact B.pwf h.wi.bk hp
  · rw [step_ms hk]
    exact hp
theorem jobB_mem {ms : List MB} {id : Nat} : ∀ n, n ≤ ms.length → (∃ k, k < n ∧ jobB ms id n = ms.getD k mb0 ∧ (ms.getD k mb0).first ≤ id) ∨ jobB ms id n = mb0 := by
  intro n
  induction n with
  | zero => intro _; exact Or.inr rfl
  | succ n ih =>
    intro hn
    unfold jobB
    split
    · rename_i h; exact Or.inl ⟨n, by omega, rfl, h⟩
    · rcases ih (by omega) with ⟨k, a, b, c⟩ | q
      · exact Or.inl ⟨k, by omega, b, c⟩
      · exact Or.inr q
end Go.Proofs.YtanknpmojblmcaaGreatDoor

/-
  Decides: of, joined, sameTexts, codes.
-/
set_option linter.unusedSimpArgs false
set_option linter.unusedVariables false
namespace Go.Proofs.YtanknpmojblmcaaGreatDoor
open Go.RowKit

variable {D E : Nat → Prop} {bw sy kb : Nat} {x : WS} {gv jv qv bv : Value} {sl : Nat → Sl} {w w' : World}

set_option maxHeartbeats 2000000 in
theorem kJoined (op a b : Nat) (ho : op = 5 ∨ op = 6) (ha : a ≤ 2) (hb : b ≤ 2) (w : World) :
    Calls Tryz.prog 99 #[.int .i64 (op : Int), .int .i64 (a : Int), .int .i64 (b : Int)] w fun e w' => e = .returned (.int .i64 (joinV op a b : Int)) ∧ w' = w := by
  have h1 : a = 0 ∨ a = 1 ∨ a = 2 := by omega
  have h2 : b = 0 ∨ b = 1 ∨ b = 2 := by omega
  rcases ho with rfl | rfl <;> rcases h1 with rfl | rfl | rfl <;> rcases h2 with rfl | rfl | rfl <;>
    (go_enter Tryz.func99, Tryz.ntmps99
     go_wp2_with fail
     go_ret
     exact ⟨rfl, rfl⟩)
theorem kJoined5 (a b : Nat) (ha : a ≤ 2) (hb : b ≤ 2) (w : World) :
    Calls Tryz.prog 99 #[.int .i64 5, .int .i64 (a : Int), .int .i64 (b : Int)] w fun e w' => e = .returned (.int .i64 (vAnd a b : Int)) ∧ w' = w := kJoined 5 a b (Or.inl rfl) ha hb w
theorem kJoined6 (a b : Nat) (ha : a ≤ 2) (hb : b ≤ 2) (w : World) :
    Calls Tryz.prog 99 #[.int .i64 6, .int .i64 (a : Int), .int .i64 (b : Int)] w fun e w' => e = .returned (.int .i64 (vOr a b : Int)) ∧ w' = w := kJoined 6 a b (Or.inr rfl) ha hb w
set_option maxHeartbeats 4000000 in
theorem kOf (op s : Nat) (h1 : 1 ≤ op) (h4 : op ≤ 4) (hs : s ≤ 6) (w : World) :
    Calls Tryz.prog 100 #[.int .i64 (op : Int), .int .i64 (s : Int)] w fun e w' => e = .returned (.int .i64 (vP op (s : Int) : Int)) ∧ w' = w := by
  have h1 : op = 1 ∨ op = 2 ∨ op = 3 ∨ op = 4 := by omega
  have h2 : s = 0 ∨ s = 1 ∨ s = 2 ∨ s = 3 ∨ s = 4 ∨ s = 5 ∨ s = 6 := by omega
  rcases h1 with rfl | rfl | rfl | rfl <;> rcases h2 with rfl | rfl | rfl | rfl | rfl | rfl | rfl <;>
    (go_enter Tryz.func100, Tryz.ntmps100
     go_wp2_with fail
     go_ret
     exact ⟨rfl, rfl⟩)
end Go.Proofs.YtanknpmojblmcaaGreatDoor

/-
  Decides: texts that are the same; the codes of all jobs.
-/
set_option linter.unusedSimpArgs false
set_option linter.unusedVariables false
namespace Go.Proofs.YtanknpmojblmcaaGreatDoor
open Go.RowKit

variable {D E : Nat → Prop} {bw sy kb : Nat} {x : WS} {gv jv qv bv : Value} {sl : Nat → Sl} {w w' : World}
/-- Where the moves lie. -/
theorem IsMvs.at_ {w : World} {a : Option Addr} {len cap : Nat} (h : IsMvs w a len cap) {k : Nat} (hk : k < len) : ∃ (b off : Nat) (m : Mv), a = some ⟨b, off, none⟩ ∧ len ≤ cap ∧ cap ≤ maxLen ∧ b < w.heap.size ∧ MvOK m ∧ w.cell? ⟨b, off + k * 4, none⟩ = some (.int .i64 m.kind) ∧ w.cell? ⟨b, off + k * 4 + 1, none⟩ = some (.int .i64 m.a) ∧ w.cell? ⟨b, off + k * 4 + 2, none⟩ = some (.int .i64 m.b) ∧ w.cell? ⟨b, off + k * 4 + 3, none⟩ = some (.string m.s) := by
  rcases h with ⟨_, rfl, _⟩ | ⟨x, rfl, hl, hm, hc⟩
  · omega
  · obtain ⟨m, m0, h1, h2, h3, h4⟩ := hc k hk
    obtain ⟨b, off, spot⟩ := x
    have hspot : spot = none := by
      have := World.cell?_spot h1
      unfold Addr.add at this
      split at this
      · exact this
      · rename_i hz
        obtain ⟨n0, _, g1, -⟩ := hc 0 (by omega)
        simpa [Addr.add] using World.cell?_spot g1
    subst hspot
    have e1 : (⟨b, off, none⟩ : Addr).add (k * 4) = ⟨b, off + k * 4, none⟩ := by unfold Addr.add; split <;> simp_all
    have e2 : ∀ j, 0 < j → (⟨b, off + k * 4, none⟩ : Addr).add j = ⟨b, off + k * 4 + j, none⟩ := by intro j hj; unfold Addr.add; split <;> simp_all
    rw [e1] at h1 h2 h3 h4
    rw [e2 _ (by omega)] at h2 h3 h4
    exact ⟨b, off, m, rfl, hl, hm, World.block_lt_of_cell? w _ h1, m0, h1, h2, h3, h4⟩
theorem IsMvs.cap_ {w : World} {a : Option Addr} {len cap : Nat} (h : IsMvs w a len cap) : len ≤ maxLen := by
  rcases h with ⟨_, rfl, _⟩ | ⟨x, rfl, hl, hm, hc⟩
  · exact Nat.zero_le _
  · omega
theorem Keep.low {n : Nat} {w w' : World} (h : Keep (fun j => n ≤ j) w w') : Below n w w' := ⟨h.os, h.tape, h.output, h.size, fun k hk => h.block k (by omega)⟩

/-- What was made meanwhile is not the world's. -/
theorem WM.narrowD (h : WM D E bw sy kb x gv jv qv bv sl w) (k : Below w.heap.size w w') : WM (fun j => (D j ∧ j < w.heap.size) ∨ w'.heap.size ≤ j) (fun j => (E j ∧ j < w.heap.size) ∨ w'.heap.size ≤ j) bw sy kb x gv jv qv bv sl w' := by
  have hs := k.size
  have b := h.bm.narrow k
  have hbw := whole_lt h.wo
  refine ⟨(k.block bw hbw).trans h.wo, h.sm.narrow k, ⟨b.bk, b.mr, b.pr, ⟨Or.inl ⟨h.bm.dk.1, h.bm.bk.lt⟩, b.dk.2⟩, fun g hg => ⟨Or.inl ⟨(h.bm.dv g hg).1, (h.bm.mr.lt g hg).2⟩, (b.dv g hg).2⟩, fun i hi g hg => ⟨Or.inl ⟨(h.bm.dp i hi g hg).1, ((h.bm.pr i hi).lt g hg).2⟩, (b.dp i hi g hg).2⟩, h.bm.nl⟩, ?_, Or.inl ⟨h.dw.1, hbw⟩, ?_⟩
  · intro j hj
    rcases hj with q | q
    · exact Or.inl ⟨h.ed j q.1, q.2⟩
    · exact Or.inr q
  · intro q
    rcases q with q | q
    · exact h.dw.2 q.1
    · omega
theorem Sts.keepD {v : Value} {js : List PJ} (h : Sts v js w) (hn : ∀ g, v.ownBlock = some g → ¬ D g) (k : Keep D w w') : Sts v js w' := by
  rcases h with h | ⟨g, cap, rfl, h2, h3, h4⟩
  · exact Or.inl h
  · have hg := hn g rfl
    exact Or.inr ⟨g, cap, rfl, h2, Nat.lt_of_lt_of_le h3 k.size, fun i hi j hj => (k.cell hg).trans (h4 i hi j hj)⟩
theorem Sts.below {v : Value} {js : List PJ} (h : Sts v js w) (k : Below w.heap.size w w') : Sts v js w' := by
  rcases h with h | ⟨g, cap, rfl, h2, h3, h4⟩
  · exact Or.inl h
  · exact Or.inr ⟨g, cap, rfl, h2, Nat.lt_of_lt_of_le h3 k.size, fun i hi j hj => (k.cell (p := ⟨g, i * 5 + j, none⟩) h3).trans (h4 i hi j hj)⟩
theorem Keep.lowD {n : Nat} (h : Keep D w w') (hd : ∀ k, D k → n ≤ k) : Below n w w' := ⟨h.os, h.tape, h.output, h.size, fun k hk => h.block k (fun q => by have := hd k q; omega)⟩

/-- A list of texts that may be read alone. -/
def Txs (v : Value) (l : List (List UInt8)) (w : World) : Prop :=
  (v = .slice none 0 0 ∧ l = []) ∨ ∃ g cap, v = .slice (some ⟨g, 0, none⟩) l.length cap ∧ l.length ≤ cap ∧ g < w.heap.size ∧ ∀ k, k < l.length → w.cell? ⟨g, k, none⟩ = some (.string (bs (l.getD k [])))
theorem Txs.of {base : Nat} {v : Value} {l : List (List UInt8)} (h : w.ownsRow base 9 1 v l.length (l.map sV)) : Txs v l w := by
  rcases h.2 with ⟨hv, hn⟩ | ⟨g, cap, cur, hv, h1, h2, h3, h4, h5, h6⟩
  · exact Or.inl ⟨hv, List.eq_nil_of_length_eq_zero hn⟩
  · right
    subst hv
    refine ⟨g, cap, rfl, by simpa using h3, whole_lt h2, ?_⟩
    intro k hk
    have := World.ownsRow.cellAt h k (by simpa using hk)
    rw [this]
    simp [hk, sV]
theorem Txs.form {v : Value} {l : List (List UInt8)} (h : Txs v l w) : ∃ a c, v = .slice a l.length c := by
  rcases h with ⟨rfl, rfl⟩ | ⟨g, cap, rfl, _⟩
  · exact ⟨_, _, rfl⟩
  · exact ⟨_, _, rfl⟩
theorem Txs.cells {a : Option Addr} {c : Nat} {l : List (List UInt8)} (h : Txs (.slice a l.length c) l w) : ∀ k, k < l.length → ∃ g, a = some ⟨g, 0, none⟩ ∧ l.length ≤ c ∧ g < w.heap.size ∧ w.cell? ⟨g, k, none⟩ = some (.string (bs (l.getD k []))) := by
  intro k hk
  rcases h with ⟨_, hn⟩ | ⟨g, cap, hv, hc, hg, hcell⟩
  · rw [hn] at hk; simp at hk
  · injection hv with e1 e2 e3
    subst e3
    exact ⟨g, e1, hc, hg, hcell k hk⟩
theorem Txs.below {v : Value} {l : List (List UInt8)} (h : Txs v l w) (k : Below w.heap.size w w') : Txs v l w' := by
  rcases h with h | ⟨g, cap, rfl, h2, h3, h4⟩
  · exact Or.inl h
  · exact Or.inr ⟨g, cap, rfl, h2, Nat.lt_of_lt_of_le h3 k.size, fun i hi => (k.cell (p := ⟨g, i, none⟩) h3).trans (h4 i hi)⟩
theorem Txs.keepD {v : Value} {l : List (List UInt8)} (h : Txs v l w) (hn : ∀ g, v.ownBlock = some g → ¬ D g) (k : Keep D w w') : Txs v l w' := by
  rcases h with h | ⟨g, cap, rfl, h2, h3, h4⟩
  · exact Or.inl h
  · exact Or.inr ⟨g, cap, rfl, h2, Nat.lt_of_lt_of_le h3 k.size, fun i hi => (k.cell (hn g rfl)).trans (h4 i hi)⟩

set_option maxRecDepth 100000 in
set_option maxHeartbeats 2000000 in
theorem kSameTexts (u v : Value) (l : List (List UInt8)) (w : World) (hU : Txs u l w) (hV : Txs v l w) (hl : l.length ≤ 1000) :
    Calls Tryz.prog 33 #[u, v] w fun e w' => e = .returned (.bool true) ∧ Below w.heap.size w w' := by
  obtain ⟨ua, uc, rfl⟩ := hU.form
  obtain ⟨va, vc, rfl⟩ := hV.form
  have HU : Hid _ := hU.cells
  have HV : Hid _ := hV.cells
  clear hU hV
  obtain ⟨n, hn⟩ : ∃ n, n = l.length := ⟨_, rfl⟩
  rw [← hn] at hl HU HV ⊢
  clear hn
  go_enter Tryz.func33, Tryz.ntmps33
  go_wp2_with fail
  go_loopg [5] (n + 1) (fun r z wr => ∃ (k : Nat), k ≤ n ∧ r = n - k + 1 ∧ z = .int .i64 (k : Int) ∧ Below w.heap.size w wr)
  case atStart => exact ⟨0, Nat.zero_le _, rfl, rfl, Below.refl _ _⟩
  case round =>
    obtain ⟨k, hk, rfl, rfl, HB⟩ := hrel
    by_cases hlt : k < n
    · have hlt' : (k : Int) < (n : Int) := by omega
      obtain ⟨g, rfl, hc, hg, hcell⟩ := HU.out k hlt
      obtain ⟨g2, rfl, hc2, hg2, hcell2⟩ := HV.out k hlt
      have l0 := (HB.cell (p := ⟨g, k, none⟩) hg).trans hcell
      have l1 := (HB.cell (p := ⟨g2, k, none⟩) hg2).trans hcell2
      obtain ⟨j, hj⟩ : ∃ j, j = bs (l.getD k []) := ⟨_, rfl⟩
      rw [← hj] at l0 l1
      clear hcell hcell2 hj
      have HB2 := HB.drew
      go_wp2_with fail
      go_region
      go_wp2_with fail
      go_roundg (n - (k + 1) + 1)
      case measure => omega
      case rel => exact ⟨k + 1, by omega, rfl, by go_num, HB2⟩
    · have hlt' : ¬ (k : Int) < (n : Int) := by omega
      go_wp2_with fail
      go_ret
      exact ⟨rfl, HB⟩
def cdV (j : PJ) : Value := sV j.code
theorem infoStrK : (Tryz.prog.info? 9).map (fun i => (i.zero, i.size, i.bytes)) = some (some (.string ⟨#[]⟩), 1, 16) := by kernel_rfl
theorem bs_ne {l : List UInt8} (h : l ≠ []) : ¬ bs l = ⟨#[]⟩ := by
  intro e
  apply h
  have : (bs l).data.toList = [] := by rw [e]
  simpa [bs] using this
theorem bs_ni {l : List UInt8} (h : l ≠ []) : (bs l).toList.isEmpty = false := by
  rw [bs_toList]
  cases l with
  | nil => exact absurd rfl h
  | cons a r => rfl
theorem codeP_get {p : PS} {i : Nat} (h : i < p.js.length) : codeP p (i : Int) = ((p.js.getD i pj0).code, 0) := by
  unfold codeP
  rw [if_neg (by unfold hasP; simp; omega)]
  simp
theorem take_cd {js : List PJ} {k : Nat} (h : k < js.length) : (js.take (k + 1)).map cdV = (js.take k).map cdV ++ [cdV (js.getD k pj0)] := by
  rw [List.take_add_one, List.getElem?_eq_getElem h, List.map_append]
  simp [h]


set_option maxRecDepth 100000 in
set_option maxHeartbeats 4000000 in
theorem wCodes (h : WM D E bw sy kb x gv jv qv bv sl w) (hw : WOK x) :
    Calls Tryz.prog 32 #[.pointer (some ⟨bw, 0, none⟩)] w fun e w' => ∃ cv, e = .returned cv ∧ w'.ownsRow w.heap.size 9 1 cv x.p.js.length (x.p.js.map cdV) ∧ Below w.heap.size w w' := by
  obtain ⟨i0, hI0, hz0, hz1, hz2⟩ := info_parts infoStrK
  have hl24 := hw.wi.st.ok.n.ln
  have HW : Hid (WM D E bw sy kb x gv jv qv bv sl w) := h
  have hkb := h.bm.bk.lt
  clear h hw
  obtain ⟨N, hN⟩ : ∃ N, N = x.p.js.length := ⟨_, rfl⟩
  have HNN : Hid (N = x.p.js.length) := hN
  rw [← hN] at hl24
  clear hN
  go_enter Tryz.func32, Tryz.ntmps32
  go_wp2_with fail
  go_loopg [3, 4] (N + 1) (fun r c z wr => ∃ (k : Nat) (ca : Option Addr) (cc : Nat), k ≤ N ∧ r = N - k + 1 ∧ c = .slice ca k cc ∧ z = .int .i64 (k : Int) ∧ wr.ownsRow w.heap.size 9 1 (.slice ca k cc) k ((x.p.js.take k).map cdV) ∧ Hid (Below w.heap.size w wr))
  case atStart => exact ⟨0, none, 0, Nat.zero_le _, rfl, rfl, rfl, World.ownsRow_nil _ _ _ _, Below.refl _ _⟩
  case round =>
    obtain ⟨k, ca, cc, hk, rfl, rfl, rfl, hcd, HB⟩ := hrel
    have c0 := (HW.out.below HB.out).c.1
    have c3 := (HW.out.below HB.out).c.2.2.2
    have k2 := (HB.out.cell (p := ⟨kb, 2, none⟩) hkb).trans (HW.out.bm.bk.c 2)
    simp at k2
    rw [show (x.p.js.length : Int) = (N : Int) from by rw [HNN.out]] at k2
    have hszr := HB.out.size
    by_cases hlt : k < N
    · have hlt' : (k : Int) < (N : Int) := by omega
      have hlt2 : k < x.p.js.length := by rw [← HNN.out]; exact hlt
      have HCP : Hid (codeP x.p (k : Int) = _) := codeP_get hlt2
      have HTK : Hid ((x.p.js.take (k + 1)).map cdV = (x.p.js.take k).map cdV ++ [cdV (x.p.js.getD k pj0)]) := take_cd hlt2
      clear hlt2
      obtain ⟨xs, hxs⟩ : ∃ xs, xs = (x.p.js.take k).map cdV := ⟨_, rfl⟩
      rw [← hxs] at hcd HTK
      clear hxs
      go_wp2_with fail
      refine (syCode (HW.out.below HB.out).sm (k : Int) (by rw [← HNN.out]; exact hl24)).mono ?_
      rintro e y1 ⟨he, rfl⟩
      rw [HCP.out] at he
      dsimp only at he
      obtain ⟨tb, htb⟩ : ∃ tb, tb = bs (x.p.js.getD k pj0).code := ⟨_, rfl⟩
      rw [← htb] at he
      have HCV : Hid (cdV (x.p.js.getD k pj0) = .string tb) := by show _ = _; unfold cdV sV; rw [htb]
      clear htb HCP
      subst he
      go_wp2_with (at_builtin; refine wpList_append_lies _ rfl _ _ 53 rfl w.heap.size 9 i0 (.string ⟨#[]⟩) 1 16 Tryz.underlying53 hI0 hz0 hz1 hz2 rfl (by decide) _ k xs rfl (hcd.alloc _) ⟨y1.heap.size, 0, none⟩ 1 1 [.string tb] rfl rfl ?c1 ?c2 (by decide) ?c3 ?c4 ?c5 _ rfl ?_)
      case c1 => exact World.news_of_block (cs := #[.string tb]) (t := 9) (fr := (0, 0)) (whole_new y1 (.cells #[.string tb] 9 (0, 0)))
      case c2 => intro u hu; simp at hu; subst hu; rfl
      case c3 => unfold maxLen; omega
      case c4 => omega
      case c5 => simp; omega
      intro g4 cap4 x4 hown4 hgrow4 hat4 hlt4
      have HB4 : Hid (Below w.heap.size w x4) := by
        refine (HB.out.alloc HB.out.size _).trans ⟨hgrow4.os, hgrow4.tape, hgrow4.output, hgrow4.size, ?_⟩
        intro q hq
        refine hgrow4.block q (by simp; omega) ?_
        intro e
        have := (hcd.lt q e.symm).1
        omega
      have hown5 : x4.ownsRow w.heap.size 9 1 (.slice (some ⟨g4, 0, none⟩) (k + 1) cap4) (k + 1) ((x.p.js.take (k + 1)).map cdV) := by
        rw [HTK.out, HCV.out]
        exact hown4
      clear hown4 hgrow4 hat4 hlt4 hcd HTK HCV c0 c3 k2
      go_wp2_with fail
      go_roundg (N - (k + 1) + 1)
      case measure => omega
      case rel => exact ⟨k + 1, some ⟨g4, 0, none⟩, cap4, by omega, rfl, rfl, by go_num, hown5, HB4⟩
    · have hlt' : ¬ (k : Int) < (N : Int) := by omega
      obtain rfl : k = N := by omega
      have r3 : wr.ownsRow w.heap.size 9 1 (.slice ca k cc) x.p.js.length (x.p.js.map cdV) := by
        have := hcd
        rw [HNN.out, List.take_length] at this
        rw [HNN.out]
        exact this
      go_wp2_with fail
      go_ret
      exact ⟨_, rfl, r3, HB.out⟩
end Go.Proofs.YtanknpmojblmcaaGreatDoor

/-
  Decides: the value of a head's want, by its making.
-/
set_option linter.unusedSimpArgs false
set_option linter.unusedVariables false
namespace Go.Proofs.YtanknpmojblmcaaGreatDoor
open Go.RowKit

variable {D E : Nat → Prop} {bw sy kb : Nat} {x : WS} {gv jv qv bv : Value} {sl : Nat → Sl} {w w' : World}

theorem Sts.cells {a : Option Addr} {c : Nat} {l : List PJ} (hS : Sts (.slice a l.length c) l w) : ∀ k, k < l.length → ∃ g, a = some ⟨g, 0, none⟩ ∧ l.length ≤ c ∧ g < w.heap.size ∧ ∀ i, i < 5 → w.cell? ⟨g, k * 5 + i, none⟩ = (stC (l.getD k pj0))[i]? := by
  intro k hk
  rcases hS with ⟨_, hn⟩ | ⟨g, cap, hv, hc, hg, hcell⟩
  · rw [hn] at hk; simp at hk
  · injection hv with e1 e2 e3
    subst e3
    exact ⟨g, e1, hc, hg, fun i hi => hcell k hk i hi⟩
theorem infoIntK : (Tryz.prog.info? 3).map (fun i => (i.zero, i.size, i.bytes)) = some (some (.int .i64 0), 1, 8) := by kernel_rfl
/-- A list of parts that may be read alone. -/
def Pts (v : Value) (ps : List Pt) (w : World) : Prop :=
  (v = .slice none 0 0 ∧ ps = []) ∨ ∃ g cap, v = .slice (some ⟨g, 0, none⟩) ps.length cap ∧ ps.length ≤ cap ∧ cap ≤ maxLen ∧ g < w.heap.size ∧ ∀ k, k < ps.length → w.cell? ⟨g, k * 3, none⟩ = some (.int .i64 ((ps.getD k (0, 0, 0)).1 : Int)) ∧ w.cell? ⟨g, k * 3 + 1, none⟩ = some (.int .i64 ((ps.getD k (0, 0, 0)).2.1 : Int)) ∧ w.cell? ⟨g, k * 3 + 2, none⟩ = some (.int .i64 ((ps.getD k (0, 0, 0)).2.2 : Int))
theorem flatPt_get : ∀ (l : List Pt) (k : Nat), k < l.length → (flatPt l)[k * 3]? = some (.int .i64 ((l.getD k (0, 0, 0)).1 : Int)) ∧ (flatPt l)[k * 3 + 1]? = some (.int .i64 ((l.getD k (0, 0, 0)).2.1 : Int)) ∧ (flatPt l)[k * 3 + 2]? = some (.int .i64 ((l.getD k (0, 0, 0)).2.2 : Int)) := by
  intro l
  induction l with
  | nil => intro k hk; simp at hk
  | cons t r ih =>
    intro k hk
    have e : flatPt (t :: r) = [Value.int .i64 (t.1 : Int), Value.int .i64 (t.2.1 : Int), Value.int .i64 (t.2.2 : Int)] ++ flatPt r := by simp [flatPt]
    rw [e]
    cases k with
    | zero => exact ⟨rfl, rfl, rfl⟩
    | succ k =>
      obtain ⟨a, b, c⟩ := ih k (by simpa using hk)
      refine ⟨?_, ?_, ?_⟩
      · rw [List.getElem?_append_right (by simp; omega), show (k + 1) * 3 - [Value.int .i64 (t.1 : Int), Value.int .i64 (t.2.1 : Int), Value.int .i64 (t.2.2 : Int)].length = k * 3 from by simp; omega, a]; simp
      · rw [List.getElem?_append_right (by simp; omega), show (k + 1) * 3 + 1 - [Value.int .i64 (t.1 : Int), Value.int .i64 (t.2.1 : Int), Value.int .i64 (t.2.2 : Int)].length = k * 3 + 1 from by simp; omega, b]; simp
      · rw [List.getElem?_append_right (by simp; omega), show (k + 1) * 3 + 2 - [Value.int .i64 (t.1 : Int), Value.int .i64 (t.2.1 : Int), Value.int .i64 (t.2.2 : Int)].length = k * 3 + 2 from by simp; omega, c]; simp
theorem Pts.of {base : Nat} {v : Value} {l : List Pt} (h : w.ownsRow base 140 3 v l.length (flatPt l)) : Pts v l w := by
  rcases h.2 with ⟨hv, hn⟩ | ⟨g, cap, cur, hv, h1, h2, h3, h4, h5, h6⟩
  · exact Or.inl ⟨hv, List.eq_nil_of_length_eq_zero hn⟩
  · right
    subst hv
    refine ⟨g, cap, rfl, h3, h4, whole_lt h2, ?_⟩
    intro k hk
    obtain ⟨a, b, c⟩ := flatPt_get l k hk
    exact ⟨by rw [World.ownsRow.cellAt h (k * 3) (by omega)]; exact a, by rw [World.ownsRow.cellAt h (k * 3 + 1) (by omega)]; exact b, by rw [World.ownsRow.cellAt h (k * 3 + 2) (by omega)]; exact c⟩
theorem Pts.below {v : Value} {l : List Pt} (h : Pts v l w) (k : Below w.heap.size w w') : Pts v l w' := by
  rcases h with h | ⟨g, cap, rfl, h2, h3, h4, h5⟩
  · exact Or.inl h
  · exact Or.inr ⟨g, cap, rfl, h2, h3, Nat.lt_of_lt_of_le h4 k.size, fun i hi => ⟨(k.cell (p := ⟨g, i * 3, none⟩) h4).trans (h5 i hi).1, (k.cell (p := ⟨g, i * 3 + 1, none⟩) h4).trans (h5 i hi).2.1, (k.cell (p := ⟨g, i * 3 + 2, none⟩) h4).trans (h5 i hi).2.2⟩⟩
theorem Pts.form {v : Value} {l : List Pt} (h : Pts v l w) : ∃ a c, v = .slice a l.length c := by
  rcases h with ⟨rfl, rfl⟩ | ⟨g, cap, rfl, _⟩
  · exact ⟨_, _, rfl⟩
  · exact ⟨_, _, rfl⟩
def hV (S : List Nat) : List Value := S.reverse.map iV
theorem hV_cons (v : Nat) (S : List Nat) : hV (v :: S) = hV S ++ [.int .i64 (v : Int)] := by simp [hV, iV]
theorem hV_len (S : List Nat) : (hV S).length = S.length := by simp [hV]
/-- One value less. -/
theorem owns_less {base : Nat} {e : TypeId} {pa : Option Addr} {n cap : Nat} {xs : List Value} {y : Value} (h : w.ownsRow base e 1 (.slice pa (n + 1) cap) (n + 1) (xs ++ [y])) (hx : xs.length = n) : w.ownsRow base e 1 (.slice pa n cap) n xs := by
  obtain ⟨_, h2⟩ := h
  rcases h2 with ⟨h0, _⟩ | ⟨g', cap', cur, hv, hg, hh, hn, hcap, hsz, htake⟩
  · cases h0
  · cases hv
    refine ⟨by omega, .inr ⟨g', cap, cur, rfl, hg, hh, by omega, hcap, hsz, ?_⟩⟩
    have h3 : (cur.toList.take ((n + 1) * 1)).take (n * 1) = (xs ++ [y]).take (n * 1) := by rw [htake]
    rw [List.take_take, Nat.min_eq_left (by omega)] at h3
    rw [h3]
    simp [hx]
/-- The uppermost is another. -/
theorem owns_top {base : Nat} {e : TypeId} {g n cap : Nat} {xs : List Value} {y z : Value} (h : w.ownsRow base e 1 (.slice (some ⟨g, 0, none⟩) (n + 1) cap) (n + 1) (xs ++ [y])) (hx : xs.length = n) : (w.setCell ⟨g, n, none⟩ z).ownsRow base e 1 (.slice (some ⟨g, 0, none⟩) (n + 1) cap) (n + 1) (xs ++ [z]) := by
  obtain ⟨_, h2⟩ := h
  rcases h2 with ⟨h0, _⟩ | ⟨g', cap', cur, hv, hg, hh, hn, hcap, hsz, htake⟩
  · cases h0
  · cases hv
    refine ⟨by simp [hx], .inr ⟨g, cap, _, rfl, hg, whole_set hh n z, hn, hcap, by simpa using hsz, ?_⟩⟩
    have hl : n < cur.size := by omega
    rw [Array.toList_setIfInBounds, List.take_set, htake]
    simp [hx]
theorem runP_take {st : List Int} {ps : List Pt} {k : Nat} (h : k < ps.length) : runP st (ps.take (k + 1)) [] = stepP st (runP st (ps.take k) []) (ps.getD k (0, 0, 0)) := by
  rw [List.take_add_one, List.getElem?_eq_getElem h, runP_app]
  simp [runP, h]
theorem gd_drop {n : Nat} {ps : List Pt} {k d : Nat} (h : k < ps.length) (hg : GdP n (ps.drop k) d) : ((ps.getD k (0, 0, 0)).1 = 5 ∨ (ps.getD k (0, 0, 0)).1 = 6) ∧ 2 ≤ d ∧ GdP n (ps.drop (k + 1)) (d - 1) ∨ (¬ ((ps.getD k (0, 0, 0)).1 = 5 ∨ (ps.getD k (0, 0, 0)).1 = 6) ∧ ((ps.getD k (0, 0, 0)).1 ≤ 4 ∧ ((ps.getD k (0, 0, 0)).1 = 0 → (ps.getD k (0, 0, 0)).2.2 = 0) ∧ (ps.getD k (0, 0, 0)).2.1 + (ps.getD k (0, 0, 0)).2.2 ≤ n ∧ d < 20) ∧ GdP n (ps.drop (k + 1)) (d + 1)) := by
  rw [List.drop_eq_getElem_cons h] at hg
  rw [show ps.getD k (0, 0, 0) = ps[k] from by simp [h]]
  unfold GdP at hg
  split at hg
  · rename_i q; exact Or.inl ⟨q, hg.1, hg.2⟩
  · rename_i q; exact Or.inr ⟨q, hg.1, hg.2⟩
theorem range_snoc (f k : Nat) : (List.range (k + 1)).map (f + ·) = (List.range k).map (f + ·) ++ [f + k] := by rw [List.range_succ, List.map_append]; rfl

set_option maxRecDepth 100000 in
set_option maxHeartbeats 8000000 in
theorem kValue (y : MV) (ps : List Pt) (lv : Value) (js : List PJ) (w : World) (hp : Pts (.slice y.pa y.pn y.pc) ps w) (hS : Sts lv js w) (hl : js.length ≤ 24) (hst : ∀ k, k < js.length → (js.getD k pj0).st ≤ 6) (hg : ps = [] ∨ GdP js.length ps 0) :
    Calls Tryz.prog 63 #[.agg (mvC y), lv] w fun e w' => e = .returned (.int .i64 (valP (stI js) ps : Int)) ∧ Below w.heap.size w w' := by
  obtain ⟨i0, hI0, hz0, hz1, hz2⟩ := info_parts infoIntK
  obtain ⟨la, lc, rfl⟩ := hS.form
  have HS : Hid (Sts (.slice la js.length lc) js w) := hS
  have HP : Hid (Pts (.slice y.pa y.pn y.pc) ps w) := hp
  have HST : Hid (∀ k, k < js.length → (js.getD k pj0).st ≤ 6) := hst
  have HG : Hid (ps = [] ∨ GdP js.length ps 0) := hg
  obtain ⟨pa, pc, hpf⟩ := hp.form
  injection hpf with e1 e2 e3
  clear hS hp hst hg e1 e3
  unfold mvC
  have Y := whole_new w (.cells (mvC y) 87 (0, 0))
  have HB0 : Below w.heap.size w (w.alloc (.cells (mvC y) 87)) := (Below.refl _ w).alloc (Nat.le_refl _) _
  unfold mvC at Y HB0
  obtain ⟨n, hn⟩ : ∃ n, n = js.length := ⟨_, rfl⟩
  rw [← hn] at hl ⊢
  have HN : Hid (n = js.length) := hn
  clear hn
  by_cases h0 : ps = []
  · have hpn : y.pn = 0 := by rw [e2, h0]; rfl
    have HV : Hid (valP (stI js) ps = 1) := by show _ = _; rw [h0]; rfl
    clear e2
    rw [hpn] at Y HB0 ⊢
    go_enter Tryz.func63, Tryz.ntmps63
    go_wp2_with fail
    go_ret
    rw [HV.out]
    exact ⟨rfl, HB0⟩
  · have hpos : y.pn ≠ 0 := by rw [e2]; intro q; exact h0 (List.eq_nil_of_length_eq_zero q)
    clear e2
    rcases HP.out with ⟨_, q⟩ | ⟨pg, pcap, hv, hlen, hcapm, hpg, hcells⟩
    · exact absurd q h0
    injection hv with ea en ec
    rw [ea, en, ec] at Y HB0 ⊢
    have HGD : Hid (GdP n ps 0) := by
      rcases HG.out with q | q
      · exact absurd q h0
      · rw [HN.out]; exact q
    have HCE : Hid (∀ k, k < ps.length → w.cell? ⟨pg, k * 3, none⟩ = some (.int .i64 ((ps.getD k (0, 0, 0)).1 : Int)) ∧ w.cell? ⟨pg, k * 3 + 1, none⟩ = some (.int .i64 ((ps.getD k (0, 0, 0)).2.1 : Int)) ∧ w.cell? ⟨pg, k * 3 + 2, none⟩ = some (.int .i64 ((ps.getD k (0, 0, 0)).2.2 : Int))) := hcells
    have HSC : Hid _ := HS.out.cells
    obtain ⟨M, hM⟩ : ∃ M, M = ps.length := ⟨_, rfl⟩
    have HMM : Hid (M = ps.length) := hM
    have hM0 : M ≠ 0 := by rw [hM, ← en]; exact hpos
    rw [← hM] at hlen Y HB0 HCE ⊢
    clear hM hcells ea en ec hpos h0 HG
    unfold maxLen at hcapm
    have hM0i : ¬ (M : Int) = 0 := by omega
    have hM0b : ((M : Int) == 0) = false := by simpa using hM0i
    go_enter Tryz.func63, Tryz.ntmps63
    go_wp2_with fail
    obtain ⟨vb, hvb⟩ : ∃ vb, vb = w.heap.size := ⟨_, rfl⟩
    rw [← hvb] at Y ⊢
    have hvbw : w.heap.size ≤ vb := by omega
    clear hvb
    generalize w.alloc (.cells #[.int .i64 (y.batch : Int), .string (bs y.job.name), .int .i64 (y.job.nodes : Int), .int .i64 (y.job.time : Int), .bool y.job.arr, .int .i64 (y.job.lo : Int), .int .i64 (y.job.hi : Int), .string (bs y.job.after), .int .i64 (y.first : Int), .int .i64 (y.count : Int), .string (bs y.want), .slice (some ⟨pg, 0, none⟩) M pcap] 87) = y0 at *
    have HB00 : Hid (Below w.heap.size w y0) := HB0
    have hs0 := HB0.size
    have hvy := whole_lt Y
    have HY : Hid (y0.cell? ⟨vb, 11, none⟩ = some (.slice (some ⟨pg, 0, none⟩) M pcap)) := by
      have := whole_cell Y 11
      simp at this
      exact this
    clear Y HB0
    go_loopg [5, 6] (M + 1) (fun r hd z wr => ∃ (k d : Nat) (S : List Nat) (ha : Option Addr) (hc : Nat), k ≤ M ∧ r = M - k + 1 ∧ hd = .slice ha d hc ∧ z = .int .i64 (k : Int) ∧ Hid (wr.ownsRow y0.heap.size 3 1 (.slice ha d hc) d (hV S)) ∧ Hid (d = S.length) ∧ Hid (S = runP (stI js) (ps.take k) []) ∧ Hid (GdP n (ps.drop k) d) ∧ Hid (∀ u ∈ S, u ≤ 2) ∧ d ≤ 20 ∧ Hid (Below y0.heap.size y0 wr))
    case atStart => exact ⟨0, 0, [], none, 0, Nat.zero_le _, rfl, rfl, rfl, World.ownsRow_nil _ _ _ _, rfl, rfl, HGD, (by intro u hu; simp at hu), by omega, Below.refl _ _⟩
    case round =>
      obtain ⟨k, d, S, ha, hc, hk, rfl, rfl, rfl, HOW, HDS, HRS, HGK, HU2, hd20, HB⟩ := hrel
      have v11 := (HB.out.cell (p := ⟨vb, 11, none⟩) hvy).trans HY.out
      have hszr := HB.out.size
      by_cases hlt : k < M
      · have hlt' : (k : Int) < (M : Int) := by omega
        have hkp : k < ps.length := by rw [← HMM.out]; exact hlt
        have HGS : Hid _ := gd_drop hkp HGK.out
        have HRT : Hid _ := runP_take (st := stI js) hkp
        obtain ⟨q0, q1, q2⟩ := HCE.out k hlt
        have l0 := (HB.out.cell (p := ⟨pg, k * 3, none⟩) (by show pg < y0.heap.size; omega)).trans ((HB00.out.cell (p := ⟨pg, k * 3, none⟩) hpg).trans q0)
        have l1 := (HB.out.cell (p := ⟨pg, k * 3 + 1, none⟩) (by show pg < y0.heap.size; omega)).trans ((HB00.out.cell (p := ⟨pg, k * 3 + 1, none⟩) hpg).trans q1)
        have l2 := (HB.out.cell (p := ⟨pg, k * 3 + 2, none⟩) (by show pg < y0.heap.size; omega)).trans ((HB00.out.cell (p := ⟨pg, k * 3 + 2, none⟩) hpg).trans q2)
        obtain ⟨p, hpp⟩ : ∃ p, p = ps.getD k (0, 0, 0) := ⟨_, rfl⟩
        rw [← hpp] at l0 l1 l2 HGS HRT
        obtain ⟨op, f, c⟩ := p
        dsimp only at l0 l1 l2 HGS
        clear hpp q0 q1 q2 hkp
        have b3 : ¬ M ≤ k := by omega
        have PY := whole_new wr (.cells #[.int .i64 (op : Int), .int .i64 (f : Int), .int .i64 (c : Int)] 140 (0, 0))
        have HB1 : Below y0.heap.size y0 (wr.alloc (.cells #[.int .i64 (op : Int), .int .i64 (f : Int), .int .i64 (c : Int)] 140)) := HB.out.alloc HB.out.size _
        have HOW1 : Hid ((wr.alloc (.cells #[.int .i64 (op : Int), .int .i64 (f : Int), .int .i64 (c : Int)] 140)).ownsRow y0.heap.size 3 1 (.slice ha d hc) d (hV S)) := HOW.out.alloc _
        go_upto_region 8 with fail
        obtain ⟨pb, hpb⟩ : ∃ pb, pb = wr.heap.size := ⟨_, rfl⟩
        rw [← hpb] at PY ⊢
        have hpbl : y0.heap.size ≤ pb := by omega
        clear hpb
        generalize wr.alloc (.cells #[.int .i64 (op : Int), .int .i64 (f : Int), .int .i64 (c : Int)] 140) = y1 at *
        have p0 := whole_cell PY 0; have p1 := whole_cell PY 1; have p2 := whole_cell PY 2
        simp at p0 p1 p2
        clear l0 l1 l2 v11 HOW HB
        have HB1' : Hid (Below y0.heap.size y0 y1) := HB1
        have hsz1 := HB1.size
        have hpby := whole_lt PY
        clear HB1
        rcases HGS.out with ⟨hop, hd2, hg2⟩ | ⟨hnop, ⟨h4, h00, hfc, hd19⟩, hg2⟩
        · -- two are joined
          have HG2 : Hid (GdP n (ps.drop (k + 1)) (d - 1)) := hg2
          clear hg2 HGS HGK
          obtain ⟨b, a, R, hSR⟩ : ∃ b a R, S = b :: a :: R := by
            have hl2 : 2 ≤ S.length := by rw [← HDS.out]; exact hd2
            match S, hl2 with
            | [], h => simp at h
            | [u], h => simp at h
            | u :: v :: R, _ => exact ⟨u, v, R, rfl⟩
          subst hSR
          obtain ⟨N, hN⟩ : ∃ N, N = R.length := ⟨_, rfl⟩
          have hdN : d = N + 2 := by rw [HDS.out, hN]; rfl
          subst hdN
          have HNR : Hid (N = R.length) := hN
          clear hN hd2
          have ha2 := HU2.out a (by simp)
          have hb2 := HU2.out b (by simp)
          have HR2 : Hid (∀ u ∈ R, u ≤ 2) := fun u hu => HU2.out u (by simp [hu])
          have HJ2 : Hid (joinV op a b ≤ 2) := by
            show joinV op a b ≤ 2
            unfold joinV
            split
            · exact vAnd_l2 _ _
            · exact vOr_l2 _ _
          have hown := HOW1.out
          rw [hV_cons, hV_cons] at hown
          have hlR : (hV R).length = N := by rw [hV_len, HNR.out]
          have hx1 : (hV R ++ [Value.int .i64 (a : Int)]).length = N + 1 := by simp [hlR]
          have hown1 := owns_less hown hx1
          obtain ⟨g, cur, rfl, hblk, hcap⟩ : ∃ g cur, ha = some ⟨g, 0, none⟩ ∧ y1.heap[g]? = some (.cells cur 3 (0, 0)) ∧ N + 2 ≤ hc := by
            rcases hown.2 with ⟨hq, _⟩ | ⟨g, cap, cur, hq, _, h2, h3, _⟩
            · cases hq
            · cases hq; exact ⟨g, cur, rfl, h2, h3⟩
          have cx := World.ownsRow.cellAt hown N (by omega)
          have cy := World.ownsRow.cellAt hown (N + 1) (by omega)
          rw [List.getElem?_append_left (by rw [hx1]; omega), List.getElem?_append_right (by omega), hlR] at cx
          rw [List.getElem?_append_right (by omega), hx1] at cy
          simp at cx cy
          have zf := whole_frozen hblk N
          have hgy : y0.heap.size ≤ g := (hown.lt g rfl).1
          have HOT : Hid (∀ q, ((y1.drewN q).setCell ⟨g, N, none⟩ (.int .i64 (joinV op a b : Int))).ownsRow y0.heap.size 3 1 (.slice (some ⟨g, 0, none⟩) (N + 1) hc) (N + 1) (hV (joinV op a b :: R))) := by
            intro q
            rw [hV_cons]
            have : (y1.drewN q).ownsRow y0.heap.size 3 1 (.slice (some ⟨g, 0, none⟩) (N + 1) hc) (N + 1) (hV R ++ [Value.int .i64 (a : Int)]) := hown1
            exact owns_top this hlR
          have HBT : Hid (∀ q, Below y0.heap.size y0 ((y1.drewN q).setCell ⟨g, N, none⟩ (.int .i64 (joinV op a b : Int)))) := fun q => (below_drewN HB1'.out q).setCell (p := ⟨g, N, none⟩) hgy _
          have HRN : Hid (joinV op a b :: R = runP (stI js) (ps.take (k + 1)) []) := by
            show _ = _
            rw [HRT.out, ← HRS.out]
            unfold stepP
            rw [if_pos hop]
          clear hown hown1 hlR hx1 hblk HU2 HRS HRT HOW1 HDS
          obtain ⟨Q, hQ⟩ : ∃ Q, Q = N + 1 := ⟨_, rfl⟩
          rw [← hQ] at cy HOT
          have HQN : Hid (Q = N + 1) := hQ
          have hQ1 : N < Q := by omega
          have hQ2 : Q < N + 2 := by omega
          have hQc : Q ≤ hc := by omega
          have eN2 : ((N : Nat) : Int) + 2 - 2 = (N : Int) := by omega
          have eN4 : ((N : Nat) : Int) + 2 - 1 = (Q : Int) := by omega
          have eN5 : ((N : Nat) : Int) + 1 = (Q : Int) := by omega
          have eN6 : N + 1 = Q := by omega
          have hQ3 : (Q : Int) < (N : Int) + 2 := by omega
          have hQ4 : (N : Int) < (Q : Int) := by omega
          have hQ5 : (N : Int) < (N : Int) + 2 := by omega
          have w1 : IntKind.i64.wrap (N : Int) = (N : Int) := by rw [IntWalk.i64_left, IntWalk.wrap64_in _ ⟨by omega, by omega⟩]
          have w2 : IntKind.i64.wrap (Q : Int) = (Q : Int) := by rw [IntWalk.i64_left, IntWalk.wrap64_in _ ⟨by omega, by omega⟩]
          clear hQ
          have hopI : (op : Int) = 5 ∨ (op : Int) = 6 := by omega
          have HU3 : Hid (∀ u ∈ joinV op a b :: R, u ≤ 2) := by
            intro u hu
            rcases List.mem_cons.1 hu with q | q
            · rw [q]; exact HJ2.out
            · exact HR2.out u q
          rcases hop with rfl | rfl
          · obtain ⟨v, hv⟩ : ∃ v, v = vAnd a b := ⟨_, rfl⟩
            have HVV : Hid (v = vAnd a b) := hv
            have hjv : joinV 5 a b = v := hv.symm
            rw [hjv] at HOT HBT HRN HU3
            clear hv hjv
            go_wp2_with fail
            go_quiet ((go_at_call 99; exact Calls.quiet_of_same (kJoined5 a b ha2 hb2 _)))
            rw [← HVV.out]
            go_wp2_with fail
            go_roundg (M - (k + 1) + 1)
            case measure => omega
            case rel => exact ⟨k + 1, Q, _, _, _, by omega, rfl, rfl, by go_num, HOT.out _, (by show Q = R.length + 1; rw [HQN.out, HNR.out]), HRN, (by rw [HQN.out]; exact HG2), HU3, by omega, HBT.out _⟩
          · obtain ⟨v, hv⟩ : ∃ v, v = vOr a b := ⟨_, rfl⟩
            have HVV : Hid (v = vOr a b) := hv
            have hjv : joinV 6 a b = v := hv.symm
            rw [hjv] at HOT HBT HRN HU3
            clear hv hjv
            go_wp2_with fail
            go_quiet ((go_at_call 99; exact Calls.quiet_of_same (kJoined6 a b ha2 hb2 _)))
            rw [← HVV.out]
            go_wp2_with fail
            go_roundg (M - (k + 1) + 1)
            case measure => omega
            case rel => exact ⟨k + 1, Q, _, _, _, by omega, rfl, rfl, by go_num, HOT.out _, (by show Q = R.length + 1; rw [HQN.out, HNR.out]), HRN, (by rw [HQN.out]; exact HG2), HU3, by omega, HBT.out _⟩
        · -- one is laid
          have HG2 : Hid (GdP n (ps.drop (k + 1)) (d + 1)) := hg2
          clear hg2 HGS HGK
          have hop5 : ¬ (op : Int) = 5 := by omega
          have hop6 : ¬ (op : Int) = 6 := by omega
          have hop5n : ¬ op = 5 := by omega
          have hop6n : ¬ op = 6 := by omega
          have hop5b : ((op : Int) == 5) = false := by simpa using hop5
          have hop6b : ((op : Int) == 6) = false := by simpa using hop6
          have HOP : Hid (op ≤ 4 ∧ (op = 0 → c = 0) ∧ f + c ≤ n ∧ ¬ (op = 5 ∨ op = 6)) := ⟨h4, h00, hfc, hnop⟩
          clear h00 hnop
          go_wp2_with fail
          go_loopg [10, 11] (c + 1) (fun r v z wx => ∃ (j v0 : Nat), j ≤ c ∧ r = c - j + 1 ∧ v = .int .i64 (v0 : Int) ∧ z = .int .i64 (j : Int) ∧ Hid (v0 = allV (stI js) op ((List.range j).map (f + ·))) ∧ v0 ≤ 2 ∧ Hid (Below y1.heap.size y1 wx))
          case atStart => exact ⟨0, 1, Nat.zero_le _, rfl, rfl, rfl, rfl, by omega, Below.refl _ _⟩
          case round =>
            obtain ⟨j, v0, hj, rfl, rfl, rfl, HV0, hv2, HBX⟩ := hrel
            have p0 := (HBX.out.cell (p := ⟨pb, 0, none⟩) hpby).trans p0
            have p1 := (HBX.out.cell (p := ⟨pb, 1, none⟩) hpby).trans p1
            have p2 := (HBX.out.cell (p := ⟨pb, 2, none⟩) hpby).trans p2
            have hszx := HBX.out.size
            by_cases hjc : j < c
            · have hjc' : (j : Int) < (c : Int) := by omega
              have h1 : 1 ≤ op := by have := HOP.out.2.1; omega
              obtain ⟨q, hq⟩ : ∃ q, q = f + j := ⟨_, rfl⟩
              have hqn : q < n := by omega
              have hqI : (f : Int) + (j : Int) = (q : Int) := by omega
              have hqw : IntKind.i64.wrap (q : Int) = (q : Int) := by rw [IntWalk.i64_left, IntWalk.wrap64_in _ ⟨by omega, by omega⟩]
              have hqn' : (q : Int) < (n : Int) := by omega
              obtain ⟨lg, rfl, hlc, hlg, hlcell⟩ := HSC.out q (by rw [← HN.out]; exact hqn)
              have s0 := (HBX.out.cell (p := ⟨lg, q * 5, none⟩) (by show lg < y1.heap.size; omega)).trans ((HB1'.out.cell (p := ⟨lg, q * 5, none⟩) (by show lg < y0.heap.size; omega)).trans ((HB00.out.cell (p := ⟨lg, q * 5, none⟩) hlg).trans (hlcell 0 (by omega))))
              have hs6 := HST.out q (by rw [← HN.out]; exact hqn)
              obtain ⟨jq, hjq⟩ : ∃ jq, jq = js.getD q pj0 := ⟨_, rfl⟩
              rw [← hjq] at s0 hs6
              simp [stC] at s0
              obtain ⟨s, hs0⟩ : ∃ s, s = jq.st := ⟨_, rfl⟩
              rw [← hs0] at s0 hs6
              have hs : s = (js.getD q pj0).st := by rw [hs0, hjq]
              have HAV : Hid (allV (stI js) op ((List.range (j + 1)).map (f + ·)) = vAnd v0 (vP op (s : Int))) := by
                show _ = _
                rw [range_snoc, allV_snoc, ← HV0.out, ← hq]
                congr 1
                unfold askV
                rw [if_pos (by rw [stI_len, ← HN.out]; exact hqn), stI_get js (by rw [← HN.out]; exact hqn), hs]
              clear hq hs hs0 hjq hlcell
              rw [← HN.out] at hlc
              have hvp2 := vP_l2 op (s : Int)
              have HXD : Hid (∀ qq, Below y1.heap.size y1 (wr.drewN qq)) := fun qq => below_drewN HBX.out qq
              go_wp2_with fail
              go_quiet ((go_at_call 100; exact Calls.quiet_of_same (kOf op s h1 h4 hs6 _)))
              obtain ⟨vx, hvx⟩ : ∃ vx, vx = vP op (s : Int) := ⟨_, rfl⟩
              rw [← hvx] at hvp2 HAV ⊢
              clear hvx
              go_wp2_with fail
              refine (kJoined5 v0 vx hv2 hvp2 _).mono ?_
              rintro e yz ⟨rfl, hyz⟩
              have HXZ : Hid (Below y1.heap.size y1 yz) := by rw [hyz]; exact HXD.out _
              clear hyz
              obtain ⟨v1, hv1⟩ : ∃ v1, v1 = vAnd v0 vx := ⟨_, rfl⟩
              have hv12 : v1 ≤ 2 := by rw [hv1]; exact vAnd_l2 _ _
              rw [← hv1] at HAV ⊢
              have HAV2 : Hid (v1 = allV (stI js) op ((List.range (j + 1)).map (f + ·))) := HAV.out.symm
              clear hv1 HAV
              go_wp2_with fail
              go_roundg (c - (j + 1) + 1)
              case measure => omega
              case rel => exact ⟨j + 1, v1, by omega, rfl, rfl, by go_num, HAV2, hv12, HXZ⟩
            · have hjc' : ¬ (j : Int) < (c : Int) := by omega
              obtain rfl : j = c := by omega
              have HOX : Hid (wr.ownsRow y0.heap.size 3 1 (.slice ha d hc) d (hV S)) := owns_below HOW1.out HBX.out
              have HRN : Hid (v0 :: S = runP (stI js) (ps.take (k + 1)) []) := by
                show _ = _
                rw [HRT.out, ← HRS.out]
                unfold stepP
                rw [if_neg HOP.out.2.2.2, ← HV0.out]
              have HU3 : Hid (∀ u ∈ v0 :: S, u ≤ 2) := by
                intro u hu
                rcases List.mem_cons.1 hu with q | q
                · rw [q]; exact hv2
                · exact HU2.out u q
              have hownx := HOX.out
              have HBY : Hid (Below y0.heap.size y0 wr) := HB1'.out.trans (HBX.out.mono hsz1)
              clear HBX
              go_wp2_with (at_builtin; refine wpList_append_lies _ rfl _ _ 36 rfl y0.heap.size 3 i0 (.int .i64 0) 1 8 Tryz.underlying36 hI0 hz0 hz1 hz2 rfl (by decide) _ d (hV S) rfl (hownx.alloc _) ⟨wr.heap.size, 0, none⟩ 1 1 [.int .i64 (v0 : Int)] rfl rfl ?c1 ?c2 (by decide) ?c3 ?c4 ?c5 _ rfl ?_)
              all_goals first
                | exact World.news_of_block (cs := #[.int .i64 (v0 : Int)]) (t := 3) (fr := (0, 0)) (whole_new wr (.cells #[.int .i64 (v0 : Int)] 3 (0, 0)))
                | rfl
                | (intro u hu; simp at hu; subst hu; rfl)
                | (unfold maxLen; omega)
                | omega
                | (simp; omega)
                | skip
              intro g4 cap4 x4 hown4 hgrow4 hat4 hlt4
              have HB4 : Hid (Below y0.heap.size y0 x4) := by
                refine (HBY.out.alloc HBY.out.size _).trans ⟨hgrow4.os, hgrow4.tape, hgrow4.output, hgrow4.size, ?_⟩
                intro q hq
                refine hgrow4.block q (by simp; omega) ?_
                intro e
                have := (hownx.lt q e.symm).1
                omega
              have HO4 : Hid (x4.ownsRow y0.heap.size 3 1 (.slice (some ⟨g4, 0, none⟩) (d + 1) cap4) (d + 1) (hV (v0 :: S))) := by
                rw [hV_cons]
                exact hown4
              clear hown4 hgrow4 hat4 hlt4 hownx HOX
              go_wp2_with fail
              go_roundg (M - (k + 1) + 1)
              case measure => omega
              case rel => exact ⟨k + 1, d + 1, v0 :: S, _, _, by omega, rfl, rfl, by go_num, HO4, (by show d + 1 = S.length + 1; rw [HDS.out]), HRN, HG2, HU3, by omega, HB4⟩
      · have hlt' : ¬ (k : Int) < (M : Int) := by omega
        obtain rfl : k = M := by omega
        have hd1 : d = 1 := by
          have := HGK.out
          rw [List.drop_eq_nil_of_le (by rw [HMM.out]; exact Nat.le_refl _)] at this
          exact this
        obtain ⟨v, rfl⟩ : ∃ v, S = [v] := by
          have hl1 : S.length = 1 := by rw [← HDS.out]; exact hd1
          match S, hl1 with
          | [u], _ => exact ⟨u, rfl⟩
        have HVP : Hid (valP (stI js) ps = v) := by
          show _ = _
          unfold valP
          rw [if_neg (by intro q; rw [HMM.out, q] at hM0; exact hM0 rfl)]
          have := HRS.out
          rw [HMM.out, List.take_length] at this
          rw [← this]
          rfl
        subst hd1
        obtain ⟨g, rfl, hcap⟩ : ∃ g, ha = some ⟨g, 0, none⟩ ∧ 1 ≤ hc := by
          rcases HOW.out.2 with ⟨hq, _⟩ | ⟨g, cap, cur, hq, _, h2, h3, _⟩
          · cases hq
          · cases hq; exact ⟨g, rfl, h3⟩
        have cx := World.ownsRow.cellAt HOW.out 0 (by omega)
        simp [hV, iV] at cx
        have HBF : Hid (Below w.heap.size w wr) := HB00.out.trans (HB.out.mono hs0)
        go_wp2_with fail
        go_ret
        rw [HVP.out]
        exact ⟨rfl, HBF.out⟩
end Go.Proofs.YtanknpmojblmcaaGreatDoor

/-
  Exec of the package batch.
-/
set_option linter.unusedSimpArgs false
set_option linter.unusedVariables false
namespace Go.Proofs.YtanknpmojblmcaaGreatDoor
open Go.RowKit


set_option maxHeartbeats 400000 in
theorem Exec_any (T : ByteArray) (u : Value) (ns : List Int) (w : World) (hu : IntsB w.heap.size u ns w) (hT : T.size ≤ maxLen) :
    Calls Tryz.prog 65 #[.string T, u] w fun e w' => e = .returned (.tuple #[.int .i64 ((runE T.data.toList ns).1 : Int), .int .i64 ((runE T.data.toList ns).2 : Int)]) ∧ Below w.heap.size w w' := by
  go_enter Tryz.func65, Tryz.ntmps65
  go_wp2_with fail
  refine (Run_any T u ns _ hu hT).mono ?_
  rintro e w1 ⟨rfl, hB⟩
  go_wp2_with fail
  go_ret2
  exact ⟨rfl, hB⟩

end Go.Proofs.YtanknpmojblmcaaGreatDoor

/-
  Decides: each job is decided as what it waits for tells, and its code tells the same.
-/
set_option linter.unusedSimpArgs false
set_option linter.unusedVariables false
namespace Go.Proofs.YtanknpmojblmcaaGreatDoor
open Go.RowKit

variable {D E : Nat → Prop} {bw sy kb : Nat} {x : WS} {gv jv qv bv : Value} {sl : Nat → Sl} {w w' : World}

/-- The states, so far as they are written. -/
def fK (js : List PJ) (k : Nat) : List Value := (List.range js.length).map fun i => .int .i64 (if i < k then ((js.getD i pj0).st : Int) else 0)
theorem fK_len (js : List PJ) (k : Nat) : (fK js k).length = js.length := by simp [fK]
theorem fK_zero (js : List PJ) : fK js 0 = List.replicate js.length (.int .i64 0) := by
  unfold fK
  refine List.ext_getElem (by simp) ?_
  intro i h1 h2
  simp
theorem fK_step {js : List PJ} {k : Nat} (h : k < js.length) : (fK js k).set k (.int .i64 ((js.getD k pj0).st : Int)) = fK js (k + 1) := by
  unfold fK
  refine List.ext_getElem (by simp) ?_
  intro i h1 h2
  rw [List.getElem_set]
  split
  · rename_i e
    subst e
    simp
  · rename_i e
    simp only [List.getElem_map, List.getElem_range]
    by_cases q : i < k
    · rw [if_pos q, if_pos (by omega)]
    · rw [if_neg q, if_neg (by omega)]
theorem owns_put {base : Nat} {e : TypeId} {g n cap i : Nat} {xs : List Value} {z : Value} (h : w.ownsRow base e 1 (.slice (some ⟨g, 0, none⟩) n cap) n xs) : (w.setCell ⟨g, i, none⟩ z).ownsRow base e 1 (.slice (some ⟨g, 0, none⟩) n cap) n (xs.set i z) := by
  obtain ⟨h1, h2⟩ := h
  rcases h2 with ⟨h0, _⟩ | ⟨g', cap', cur, hv, hg, hh, hn, hcap, hsz, htake⟩
  · cases h0
  · cases hv
    refine ⟨by simpa using h1, .inr ⟨g, cap, _, rfl, hg, whole_set hh i z, hn, hcap, by simpa using hsz, ?_⟩⟩
    rw [Array.toList_setIfInBounds, List.take_set, htake]
theorem ints_fK {base : Nat} {v : Value} {js : List PJ} (h : w.ownsRow base 3 1 v js.length (fK js js.length)) : IntsB w.heap.size v (stI js) w := by
  have hl := stI_len js
  rcases h.2 with ⟨hv, hn⟩ | ⟨g, cap, cur, hv, h1, h2, h3, h4, h5, h6⟩
  · exact Or.inl ⟨hv, List.eq_nil_of_length_eq_zero (by rw [hl]; exact hn)⟩
  · right
    subst hv
    refine ⟨g, cap, by rw [hl], by rw [hl]; exact h3, whole_lt h2, ?_⟩
    intro k hk
    have hk' : k < js.length := by rw [← hl]; exact hk
    rw [World.ownsRow.cellAt h k (by omega)]
    have e := stI_get js hk'
    rw [show (stI js).getD k 0 = (stI js)[k] from by simp [hk]] at e
    rw [e]
    unfold fK
    rw [List.getElem?_map, List.getElem?_range hk']
    simp [hk']
theorem jobI_eq (ms : List MB) (id : Nat) : ∀ n, jobB ms id n = (match jobI ms id n with | none => mb0 | some k => ms.getD k mb0) := by
  intro n
  induction n with
  | zero => rfl
  | succ n ih =>
    unfold jobB jobI
    split
    · rfl
    · exact ih
theorem IntsB.grow {u : Value} {ns : List Int} (k : Below w.heap.size w w') (h : IntsB w.heap.size u ns w) : IntsB w'.heap.size u ns w' := by
  rcases h with h | ⟨g, cap, h1, h2, h3, h4⟩
  · exact Or.inl h
  · exact Or.inr ⟨g, cap, h1, h2, Nat.lt_of_lt_of_le h3 k.size, fun i hi => (k.cell (p := ⟨g, i, none⟩) h3).trans (h4 i hi)⟩
/-- The parts of a job's head, as they lie. -/
theorem WM.parts (h : WM D E bw sy kb x gv jv qv bv sl w) (id : Nat) : Pts (.slice (mvI x.ms sl (jobI x.ms id x.ms.length)).pa (mvI x.ms sl (jobI x.ms id x.ms.length)).pn (mvI x.ms sl (jobI x.ms id x.ms.length)).pc) (jobB x.ms id x.ms.length).parts w := by
  rw [jobI_eq]
  cases e : jobI x.ms id x.ms.length with
  | none => exact Or.inl ⟨rfl, rfl⟩
  | some k => exact Pts.of (h.bm.pr k (jobI_lt e))
/-- What is decided of a job, and what its parts are worth. -/
theorem dec_val (hw : WOK x) (hD : DecJ x.p.js) (hC : CVJ x.p.js x.ms) {i : Nat} (hi : i < x.p.js.length) :
    runE (x.p.js.getD i pj0).code (stI x.p.js) = (valP (stI x.p.js) (jobB x.ms i x.ms.length).parts, 0) ∧
    ((x.p.js.getD i pj0).st = 0 → valP (stI x.p.js) (jobB x.ms i x.ms.length).parts = 0) ∧ ((x.p.js.getD i pj0).st = 6 → valP (stI x.p.js) (jobB x.ms i x.ms.length).parts = 2) ∧ (1 ≤ (x.p.js.getD i pj0).st → (x.p.js.getD i pj0).st ≤ 4 → valP (stI x.p.js) (jobB x.ms i x.ms.length).parts = 1) := by
  have e := hC i hi (stI x.p.js) (by rw [stI_len]; omega) hw.wi.st.ok.okl.are
  have ev : valJ x.p.js i = valP (stI x.p.js) (jobB x.ms i x.ms.length).parts := by
    unfold valJ
    rw [e]
  refine ⟨e, ?_, ?_, ?_⟩
  · intro q; rw [← ev]; exact hD.h i hi q
  · intro q; rw [← ev]; exact (hD.p i hi).2 q
  · intro q1 q2; rw [← ev]; exact (hD.p i hi).1 q1 q2
theorem pwf_job (hP : PWF x.ms) {i n : Nat} (hi : i < n) : (jobB x.ms i x.ms.length).parts = [] ∨ GdP n (jobB x.ms i x.ms.length).parts 0 := by
  rcases jobB_mem (ms := x.ms) (id := i) x.ms.length (Nat.le_refl _) with ⟨k, a, b, c⟩ | q
  · rw [b]
    rcases hP k a with h | h
    · exact Or.inl h
    · exact Or.inr (GdP.up (by omega) _ _ h)
  · rw [q]; exact Or.inl rfl

set_option maxRecDepth 100000 in
set_option maxHeartbeats 16000000 in
theorem wDecided (h : WM D E bw sy kb x gv jv qv bv sl w) (hw : WOK x) (hD : DecJ x.p.js) (hC : CVJ x.p.js x.ms) (hP : PWF x.ms) (lv : Value) (hS : Sts lv x.p.js w) :
    Calls Tryz.prog 31 #[.pointer (some ⟨bw, 0, none⟩), lv] w fun e w' => e = .returned (.bool true) ∧ Below w.heap.size w w' := by
  obtain ⟨i0, hI0, hz0, hz1, hz2⟩ := info_parts infoIntK
  have hl24 := hw.wi.st.ok.n.ln
  have hms := hw.ms_le
  have HJS : Hid (∀ k, k < x.p.js.length → (x.p.js.getD k pj0).st ≤ 6) := fun k hk => (hw.wi.st.ok.n.js _ (getD_in hk)).st
  have HJC : Hid (∀ k, k < x.p.js.length → (x.p.js.getD k pj0).code.length ≤ 8000) := fun k hk => (hw.wi.st.ok.n.js _ (getD_in hk)).cd
  have HDV : Hid (∀ i, i < x.p.js.length → _) := fun i hi => dec_val hw hD hC hi
  have HPJ : Hid (∀ i, i < x.p.js.length → ((jobB x.ms i x.ms.length).parts = [] ∨ GdP x.p.js.length (jobB x.ms i x.ms.length).parts 0)) := fun i hi => pwf_job hP hi
  have HW : Hid (WM D E bw sy kb x gv jv qv bv sl w) := h
  have HK : Hid (WOK x) := hw
  have hbw := whole_lt h.wo
  clear h hw hD hC hP
  obtain ⟨la, lc, hlf⟩ := hS.form
  have HS : Hid (Sts lv x.p.js w) := hS
  obtain ⟨n, hn⟩ : ∃ n, n = x.p.js.length := ⟨_, rfl⟩
  rw [← hn] at hlf hl24
  have HNN : Hid (n = x.p.js.length) := hn
  clear hn hS
  subst hlf
  go_enter Tryz.func31, Tryz.ntmps31
  go_wp2_with (refine wpList_make_full _ rfl _ _ 36 rfl w.heap.size 3 i0 (.int .i64 0) 1 Tryz.underlying36 hI0 hz0 hz1 _ _ _ _ n rfl rfl rfl rfl ?b2 ?b3 ?b4 ?_)
  case b2 => rw [hz2]; omega
  case b3 => unfold maxLen; omega
  case b4 => exact Nat.le_refl _
  intro y1 hown1 hg1
  have HB1 : Hid (Below w.heap.size w y1) := (Below.refl _ w).grown hg1 (Nat.le_refl _) (by simp)
  have HO1 : Hid (y1.ownsRow w.heap.size 3 1 (.slice (some ⟨w.heap.size, 0, none⟩) n n) n (fK x.p.js 0)) := by
    show World.ownsRow _ _ _ _ _ _ _
    rw [fK_zero, ← HNN.out]
    have e : List.replicate n (Value.int .i64 0) = (madeCells #[Value.int .i64 0] n).toList := by rw [toList_madeCells_one]
    rw [e]
    exact hown1
  clear hown1 hg1
  obtain ⟨sg, hsg⟩ : ∃ sg, sg = w.heap.size := ⟨_, rfl⟩
  have hsgw : w.heap.size ≤ sg := by omega
  have HO2 : Hid (y1.ownsRow w.heap.size 3 1 (.slice (some ⟨sg, 0, none⟩) n n) n (fK x.p.js 0)) := by rw [hsg]; exact HO1.out
  rw [← hsg]
  clear HO1 hsg
  go_wp2_with fail
  go_loopg [6] (n + 1) (fun r z wr => ∃ (k : Nat), k ≤ n ∧ r = n - k + 1 ∧ z = .int .i64 (k : Int) ∧ Hid (wr.ownsRow w.heap.size 3 1 (.slice (some ⟨sg, 0, none⟩) n n) n (fK x.p.js k)) ∧ Hid (Below w.heap.size w wr))
  case atStart => exact ⟨0, Nat.zero_le _, rfl, rfl, HO2, HB1⟩
  case round =>
    obtain ⟨k, hk, rfl, rfl, HO, HB⟩ := hrel
    by_cases hlt : k < n
    · have hlt' : (k : Int) < (n : Int) := by omega
      have hlt2 : k < x.p.js.length := by rw [← HNN.out]; exact hlt
      have HST := HS.out
      rw [HNN.out] at HST
      obtain ⟨g, rfl, hc, hg, hcell⟩ := HST.cells k hlt2
      rw [← HNN.out] at hc
      have l0 := (HB.out.cell (p := ⟨g, k * 5, none⟩) hg).trans (hcell 0 (by omega))
      have HFS : Hid ((fK x.p.js k).set k (.int .i64 ((x.p.js.getD k pj0).st : Int)) = fK x.p.js (k + 1)) := fK_step hlt2
      obtain ⟨j, hj⟩ : ∃ j, j = x.p.js.getD k pj0 := ⟨_, rfl⟩
      rw [← hj] at l0 HFS
      simp [stC] at l0
      obtain ⟨hown, hblk⟩ : wr.ownsRow w.heap.size 3 1 (.slice (some ⟨sg, 0, none⟩) n n) n (fK x.p.js k) ∧ ∃ cur, wr.heap[sg]? = some (.cells cur 3 (0, 0)) := by
        refine ⟨HO.out, ?_⟩
        rcases HO.out.2 with ⟨hq, _⟩ | ⟨g', cap, cur, hq, _, h2, _⟩
        · cases hq
        · cases hq; exact ⟨cur, h2⟩
      obtain ⟨cur, hblk⟩ := hblk
      have zf := whole_frozen hblk k
      have cs := World.ownsRow.cellAt hown k (by omega)
      obtain ⟨u, hu⟩ : ∃ u, (fK x.p.js k)[k]? = some u := ⟨_, List.getElem?_eq_getElem (by rw [fK_len]; exact hlt2)⟩
      rw [hu] at cs
      have HOT : Hid ((wr.setCell ⟨sg, k, none⟩ (.int .i64 (j.st : Int))).ownsRow w.heap.size 3 1 (.slice (some ⟨sg, 0, none⟩) n n) n (fK x.p.js (k + 1))) := by
        rw [← HFS.out]
        exact owns_put hown
      have HBT : Hid (Below w.heap.size w (wr.setCell ⟨sg, k, none⟩ (.int .i64 (j.st : Int)))) := HB.out.setCell (p := ⟨sg, k, none⟩) hsgw _
      clear hj hcell hown hblk hu HST HFS HO HB hlt2
      go_wp2_with fail
      go_roundg (n - (k + 1) + 1)
      case measure => omega
      case rel => exact ⟨k + 1, by omega, rfl, by go_num, HOT, HBT⟩
    · have hlt' : ¬ (k : Int) < (n : Int) := by omega
      obtain rfl : k = n := by omega
      have HI : Hid (IntsB wr.heap.size (.slice (some ⟨sg, 0, none⟩) k k) (stI x.p.js) wr) := by
        have := HO.out
        refine ints_fK (base := w.heap.size) ?_
        rw [← HNN.out]
        exact this
      go_wp2_with fail
      obtain ⟨yA, hyA⟩ : ∃ yA, yA = wr := ⟨_, rfl⟩
      have HIA : Hid (IntsB yA.heap.size (.slice (some ⟨sg, 0, none⟩) k k) (stI x.p.js) yA ∧ Below w.heap.size w yA) := by rw [hyA]; exact ⟨HI.out, HB.out⟩
      rw [← hyA]
      clear hyA HI HB HO
      obtain ⟨n, hnk⟩ : ∃ n, n = k := ⟨_, rfl⟩
      rw [← hnk] at HIA HNN hl24 HS ⊢
      clear hlt hlt' hk hnk
      go_loopg [7] (n + 1) (fun r z wr => ∃ (i : Nat), i ≤ n ∧ r = n - i + 1 ∧ z = .int .i64 (i : Int) ∧ Hid (Below yA.heap.size yA wr))
      case atStart => exact ⟨0, Nat.zero_le _, rfl, rfl, Below.refl _ _⟩
      case round =>
        obtain ⟨i, hi, rfl, rfl, HB⟩ := hrel
        by_cases hlt : i < n
        · have hlt' : (i : Int) < (n : Int) := by omega
          have hlt2 : i < x.p.js.length := by rw [← HNN.out]; exact hlt
          have HBW : Hid (Below w.heap.size w wr) := HIA.out.2.trans (HB.out.mono HIA.out.2.size)
          have c3 := (HW.out.below HBW.out).c.2.2.2
          have HST := HS.out
          rw [HNN.out] at HST
          have HSTW : Hid (Sts (.slice la n lc) x.p.js w) := HS.out
          have HS6 := HJS.out i hlt2
          have HCL := HJC.out i hlt2
          obtain ⟨HE, v0, v6, v1⟩ := HDV.out i hlt2
          have HPI : Hid _ := HPJ.out i hlt2
          have HCP : Hid (codeP x.p (i : Int) = _) := codeP_get hlt2
          obtain ⟨g, hla, hc, hg, hcell⟩ := HST.cells i hlt2
          have HL0 : Hid (w.cell? ⟨g, i * 5, none⟩ = some (.int .i64 ((x.p.js.getD i pj0).st : Int))) := by
            have := hcell 0 (by omega)
            exact this
          obtain ⟨V, hV⟩ : ∃ V, V = valP (stI x.p.js) (jobB x.ms i x.ms.length).parts := ⟨_, rfl⟩
          have HVV : Hid (valP (stI x.p.js) (jobB x.ms i x.ms.length).parts = V) := hV.symm
          rw [← hV] at HE v0 v6 v1
          have HEX : Hid (runE (x.p.js.getD i pj0).code (stI x.p.js) = (V, 0)) := HE
          obtain ⟨s, hs⟩ : ∃ s, s = (x.p.js.getD i pj0).st := ⟨_, rfl⟩
          rw [← hs] at v0 v6 v1 HS6 HL0
          have HVS : Hid ((s = 0 → V = 0) ∧ (s = 6 → V = 2) ∧ (1 ≤ s → s ≤ 4 → V = 1)) := ⟨v0, v6, v1⟩
          obtain ⟨cd, hcd⟩ : ∃ cd, cd = (x.p.js.getD i pj0).code := ⟨_, rfl⟩
          rw [← hcd] at HCL HEX HCP
          obtain ⟨tb, htb⟩ : ∃ tb, tb = bs cd := ⟨_, rfl⟩
          have HTB : Hid (bs cd = tb ∧ tb.data.toList = cd ∧ tb.size ≤ maxLen) := ⟨htb.symm, by rw [htb, bs_list], by rw [htb, bs_size]; unfold maxLen; omega⟩
          subst hla
          rw [← HNN.out] at hc
          clear htb hcd HCL hV hs HE v0 v6 v1 HST hcell hlt2
          go_wp2_with fail
          refine (wJob kb bv x.bn x.p.js.length x.ms sl i wr (HW.out.below HBW.out).bm.bk (HW.out.below HBW.out).bm.rows (by omega)).mono ?_
          rintro e y2 ⟨rfl, hY2⟩
          have HB2 : Hid (Below w.heap.size w y2) := HBW.out.trans (hY2.mono HBW.out.size)
          have HBA : Hid (Below yA.heap.size yA y2) := HB.out.trans (hY2.mono HB.out.size)
          clear hY2 HBW HB c3
          obtain ⟨ym, hym⟩ : ∃ ym, ym = mvI x.ms sl (jobI x.ms i x.ms.length) := ⟨_, rfl⟩
          have HPT : Hid (Pts (.slice ym.pa ym.pn ym.pc) (jobB x.ms i x.ms.length).parts y2) := by
            rw [hym]
            exact (HW.out.below HB2.out).parts i
          rw [← hym]
          clear hym
          go_wp2_with fail
          refine (kValue ym (jobB x.ms i x.ms.length).parts (.slice (some ⟨g, 0, none⟩) n lc) x.p.js y2 HPT.out (HSTW.out.below HB2.out) (by rw [← HNN.out]; exact hl24) HJS.out HPI.out).mono ?_
          rintro e y3 ⟨rfl, hY3⟩
          rw [HVV.out]
          have HB3 : Hid (Below w.heap.size w y3) := HB2.out.trans (hY3.mono HB2.out.size)
          have HBA3 : Hid (Below yA.heap.size yA y3) := HBA.out.trans (hY3.mono HBA.out.size)
          clear hY3 HB2 HBA
          have l0 := (HB3.out.cell (p := ⟨g, i * 5, none⟩) hg).trans HL0.out
          have c0 := (HW.out.below HB3.out).c.1
          have hcs : s = 0 ∨ s = 1 ∨ s = 2 ∨ s = 3 ∨ s = 4 ∨ s = 5 ∨ s = 6 := by omega
          rcases hcs with rfl | rfl | rfl | rfl | rfl | rfl | rfl
          · obtain rfl : V = 0 := HVS.out.1 rfl
            go_wp2_with fail
            refine (syCode (HW.out.below HB3.out).sm (i : Int) (by rw [← HNN.out]; exact hl24)).mono ?_
            rintro e y4 ⟨he, rfl⟩
            rw [HCP.out] at he
            dsimp only at he
            rw [HTB.out.1] at he
            subst he
            go_wp2_with fail
            refine (Exec_any tb _ (stI x.p.js) _ (IntsB.grow HBA3.out HIA.out.1) HTB.out.2.2).mono ?_
            rintro e y5 ⟨he, hY5⟩
            rw [HTB.out.2.1, HEX.out] at he
            dsimp only at he
            subst he
            have HBA5 : Hid (Below yA.heap.size yA y5) := HBA3.out.trans (hY5.mono HBA3.out.size)
            clear hY5
            go_wp2_with fail
            go_roundg (n - (i + 1) + 1)
            case measure => omega
            case rel => exact ⟨i + 1, by omega, rfl, by go_num, HBA5⟩
          · obtain rfl : V = 1 := HVS.out.2.2 (by omega) (by omega)
            go_wp2_with fail
            refine (syCode (HW.out.below HB3.out).sm (i : Int) (by rw [← HNN.out]; exact hl24)).mono ?_
            rintro e y4 ⟨he, rfl⟩
            rw [HCP.out] at he
            dsimp only at he
            rw [HTB.out.1] at he
            subst he
            go_wp2_with fail
            refine (Exec_any tb _ (stI x.p.js) _ (IntsB.grow HBA3.out HIA.out.1) HTB.out.2.2).mono ?_
            rintro e y5 ⟨he, hY5⟩
            rw [HTB.out.2.1, HEX.out] at he
            dsimp only at he
            subst he
            have HBA5 : Hid (Below yA.heap.size yA y5) := HBA3.out.trans (hY5.mono HBA3.out.size)
            clear hY5
            go_wp2_with fail
            go_roundg (n - (i + 1) + 1)
            case measure => omega
            case rel => exact ⟨i + 1, by omega, rfl, by go_num, HBA5⟩
          · obtain rfl : V = 1 := HVS.out.2.2 (by omega) (by omega)
            go_wp2_with fail
            refine (syCode (HW.out.below HB3.out).sm (i : Int) (by rw [← HNN.out]; exact hl24)).mono ?_
            rintro e y4 ⟨he, rfl⟩
            rw [HCP.out] at he
            dsimp only at he
            rw [HTB.out.1] at he
            subst he
            go_wp2_with fail
            refine (Exec_any tb _ (stI x.p.js) _ (IntsB.grow HBA3.out HIA.out.1) HTB.out.2.2).mono ?_
            rintro e y5 ⟨he, hY5⟩
            rw [HTB.out.2.1, HEX.out] at he
            dsimp only at he
            subst he
            have HBA5 : Hid (Below yA.heap.size yA y5) := HBA3.out.trans (hY5.mono HBA3.out.size)
            clear hY5
            go_wp2_with fail
            go_roundg (n - (i + 1) + 1)
            case measure => omega
            case rel => exact ⟨i + 1, by omega, rfl, by go_num, HBA5⟩
          · obtain rfl : V = 1 := HVS.out.2.2 (by omega) (by omega)
            go_wp2_with fail
            refine (syCode (HW.out.below HB3.out).sm (i : Int) (by rw [← HNN.out]; exact hl24)).mono ?_
            rintro e y4 ⟨he, rfl⟩
            rw [HCP.out] at he
            dsimp only at he
            rw [HTB.out.1] at he
            subst he
            go_wp2_with fail
            refine (Exec_any tb _ (stI x.p.js) _ (IntsB.grow HBA3.out HIA.out.1) HTB.out.2.2).mono ?_
            rintro e y5 ⟨he, hY5⟩
            rw [HTB.out.2.1, HEX.out] at he
            dsimp only at he
            subst he
            have HBA5 : Hid (Below yA.heap.size yA y5) := HBA3.out.trans (hY5.mono HBA3.out.size)
            clear hY5
            go_wp2_with fail
            go_roundg (n - (i + 1) + 1)
            case measure => omega
            case rel => exact ⟨i + 1, by omega, rfl, by go_num, HBA5⟩
          · obtain rfl : V = 1 := HVS.out.2.2 (by omega) (by omega)
            go_wp2_with fail
            refine (syCode (HW.out.below HB3.out).sm (i : Int) (by rw [← HNN.out]; exact hl24)).mono ?_
            rintro e y4 ⟨he, rfl⟩
            rw [HCP.out] at he
            dsimp only at he
            rw [HTB.out.1] at he
            subst he
            go_wp2_with fail
            refine (Exec_any tb _ (stI x.p.js) _ (IntsB.grow HBA3.out HIA.out.1) HTB.out.2.2).mono ?_
            rintro e y5 ⟨he, hY5⟩
            rw [HTB.out.2.1, HEX.out] at he
            dsimp only at he
            subst he
            have HBA5 : Hid (Below yA.heap.size yA y5) := HBA3.out.trans (hY5.mono HBA3.out.size)
            clear hY5
            go_wp2_with fail
            go_roundg (n - (i + 1) + 1)
            case measure => omega
            case rel => exact ⟨i + 1, by omega, rfl, by go_num, HBA5⟩
          · have hk5 : True := trivial
            go_wp2_with fail
            refine (syCode (HW.out.below HB3.out).sm (i : Int) (by rw [← HNN.out]; exact hl24)).mono ?_
            rintro e y4 ⟨he, rfl⟩
            rw [HCP.out] at he
            dsimp only at he
            rw [HTB.out.1] at he
            subst he
            go_wp2_with fail
            refine (Exec_any tb _ (stI x.p.js) _ (IntsB.grow HBA3.out HIA.out.1) HTB.out.2.2).mono ?_
            rintro e y5 ⟨he, hY5⟩
            rw [HTB.out.2.1, HEX.out] at he
            dsimp only at he
            subst he
            have HBA5 : Hid (Below yA.heap.size yA y5) := HBA3.out.trans (hY5.mono HBA3.out.size)
            clear hY5
            go_wp2_with fail
            go_roundg (n - (i + 1) + 1)
            case measure => omega
            case rel => exact ⟨i + 1, by omega, rfl, by go_num, HBA5⟩
          · obtain rfl : V = 2 := HVS.out.2.1 rfl
            go_wp2_with fail
            refine (syCode (HW.out.below HB3.out).sm (i : Int) (by rw [← HNN.out]; exact hl24)).mono ?_
            rintro e y4 ⟨he, rfl⟩
            rw [HCP.out] at he
            dsimp only at he
            rw [HTB.out.1] at he
            subst he
            go_wp2_with fail
            refine (Exec_any tb _ (stI x.p.js) _ (IntsB.grow HBA3.out HIA.out.1) HTB.out.2.2).mono ?_
            rintro e y5 ⟨he, hY5⟩
            rw [HTB.out.2.1, HEX.out] at he
            dsimp only at he
            subst he
            have HBA5 : Hid (Below yA.heap.size yA y5) := HBA3.out.trans (hY5.mono HBA3.out.size)
            clear hY5
            go_wp2_with fail
            go_roundg (n - (i + 1) + 1)
            case measure => omega
            case rel => exact ⟨i + 1, by omega, rfl, by go_num, HBA5⟩
        · have hlt' : ¬ (i : Int) < (n : Int) := by omega
          have HBW : Hid (Below w.heap.size w wr) := HIA.out.2.trans (HB.out.mono HIA.out.2.size)
          go_wp2_with fail
          go_ret
          exact ⟨rfl, HBW.out⟩
end Go.Proofs.YtanknpmojblmcaaGreatDoor

/-
  Decides: the walk.
-/
set_option linter.unusedSimpArgs false
set_option linter.unusedVariables false
namespace Go.Proofs.YtanknpmojblmcaaGreatDoor
open Go.RowKit

theorem same_codes {x y : WS} (h : y.p.js.length = x.p.js.length ∧ ∀ i, i < x.p.js.length → (y.p.js.getD i pj0).code = (x.p.js.getD i pj0).code) : y.p.js.map (·.code) = x.p.js.map (·.code) := by
  refine List.ext_getElem (by simpa using h.1) ?_
  intro i h1 h2
  simp only [List.length_map] at h1 h2
  have := h.2 i h2
  rw [show y.p.js.getD i pj0 = y.p.js[i] from by simp [h1], show x.p.js.getD i pj0 = x.p.js[i] from by simp [h2]] at this
  simpa using this

set_option maxRecDepth 100000 in
set_option maxHeartbeats 8000000 in
theorem walk_decides (c : Int) (hc1 : -9223372036854775808 ≤ c) (hc2 : c ≤ 9223372036854775807) (a : Option Addr) (len cap : Nat) (w : World) (hM : IsMvs w a len cap) :
    Calls Tryz.prog 12 #[.int .i64 c, .slice a len cap, .int .i64 1] w fun e w' => e = .returned (.bool true) ∧ Below w.heap.size w w' := by
  have hcap := hM.cap_
  unfold maxLen at hcap
  have HM : Hid (IsMvs w a len cap) := hM
  clear hM
  go_enter Tryz.func12, Tryz.ntmps12
  go_wp2_with fail
  refine (wBegin c hc1 hc2 w).mono ?_
  rintro e x1 ⟨bw, sy, kb, rfl, hW, hB⟩
  have hN : pikD c % 8 < 8 := Nat.mod_lt _ (by omega)
  have HW0 : Hid (WMe (fun j => w.heap.size ≤ j) bw sy ⟨newP (1 + pikD c % 8), [], 0⟩ x1) := ⟨_, _, _, _, _, _, _, hW⟩
  have HK0 : Hid (WOK ⟨newP (1 + pikD c % 8), [], 0⟩) := new_wok _ (by omega) (by omega)
  have HD0 : Hid (DecJ (newP (1 + pikD c % 8)).js) := dec_nil
  have HC0 : Hid (CVJ (newP (1 + pikD c % 8)).js []) := by intro i hi; exact absurd hi (by show ¬ i < 0; omega)
  have HP0 : Hid (PWF []) := by intro k hk; simp at hk
  have HB0 : Hid (Below w.heap.size w x1) := hB
  clear hW hB hN
  go_wp2_with fail
  go_loopg [10, 11] (len + 1) (fun r la z wr => ∃ (k : Nat) (x : WS) (D : Nat → Prop), k ≤ len ∧ r = len - k + 1 ∧ z = .int .i64 (k : Int) ∧ Hid (WOK x) ∧ Hid (DecJ x.p.js) ∧ Hid (CVJ x.p.js x.ms) ∧ Hid (PWF x.ms) ∧ Hid (∀ j, D j → w.heap.size ≤ j) ∧ Hid (WMe D bw sy x wr) ∧ Hid (Below w.heap.size w wr) ∧ Hid (Txs la (x.p.js.map (·.code)) wr) ∧ Hid (∀ g, la.ownBlock = some g → ¬ D g))
  case atStart => exact ⟨0, _, _, Nat.zero_le _, rfl, rfl, HK0, HD0, HC0, HP0, fun _ h => h, HW0, HB0, Or.inl ⟨rfl, rfl⟩, by intro g hg; simp [Value.ownBlock] at hg⟩
  case round =>
    obtain ⟨k, x, D, hk, rfl, rfl, HK, HDJ, HCV, HPW, HD, HW, HB, HLA, HLD⟩ := hrel
    by_cases hlt : k < len
    · have hlt' : (k : Int) < (len : Int) := by omega
      obtain ⟨b, off, m, rfl, hl, hm, hbl, hmo, h1, h2, h3, h4⟩ := HM.out.at_ hlt
      replace h1 := (HB.out.cell (p := ⟨b, off + k * 4, none⟩) hbl).trans h1
      replace h2 := (HB.out.cell (p := ⟨b, off + k * 4 + 1, none⟩) hbl).trans h2
      replace h3 := (HB.out.cell (p := ⟨b, off + k * 4 + 2, none⟩) hbl).trans h3
      replace h4 := (HB.out.cell (p := ⟨b, off + k * 4 + 3, none⟩) hbl).trans h4
      have HMO : Hid (MvOK m) := hmo
      have HSTEP : Hid (WOK (stepW x m)) := (step_ok HK.out m).1
      have HDS : Hid (DecJ (stepW x m).p.js) := step_dec HK.out HDJ.out m
      have HCS : Hid (CVJ (stepW x m).p.js (stepW x m).ms) := step_cv HK.out HCV.out m
      have HPS : Hid (PWF (stepW x m).ms) := step_pwf HK.out HPW.out m
      have HSC : Hid ((stepW x m).bn = x.bn → (stepW x m).p.js.map (·.code) = x.p.js.map (·.code)) := fun q => same_codes (step_codes HK.out m q)
      have hl24 := HSTEP.out.wi.st.ok.n.ln
      obtain ⟨E, kb1, gv, jv, qv, bv, sl, hWx⟩ := HW.out
      have c3 := hWx.c.2.2.2
      have k1 := hWx.bm.bk.c 1
      simp at k1
      clear hWx hmo
      go_wp2_with fail
      refine (wMove HW.out HK.out m HMO.out).mono ?_
      rintro e y1 ⟨rfl, hWM, hKp⟩
      have HB1 : Hid (Below w.heap.size w y1) := HB.out.trans (hKp.lowD HD.out)
      have HW1 : Hid (WMe D bw sy (stepW x m) y1) := hWM
      have HLA1 : Hid (Txs _ (x.p.js.map (·.code)) y1) := HLA.out.keepD HLD.out hKp
      clear hWM hKp h1 h2 h3 h4 c3 k1 HW HB HLA
      obtain ⟨E2, kb2, gv2, jv2, qv2, bv2, sl2, hW2⟩ := HW1.out
      have HW2 : Hid (WM D E2 bw sy kb2 (stepW x m) gv2 jv2 qv2 bv2 sl2 y1) := hW2
      clear hW2
      obtain ⟨bn1, hbn1⟩ : ∃ bn1, bn1 = x.bn := ⟨_, rfl⟩
      obtain ⟨bn2, hbn2⟩ : ∃ bn2, bn2 = (stepW x m).bn := ⟨_, rfl⟩
      rw [← hbn1, ← hbn2] at HSC
      have HBN : Hid (bn2 = (stepW x m).bn) := hbn2
      rw [← hbn1]
      clear hbn1 hbn2
      go_wp2_with fail
      refine (wAll HW2.out HSTEP.out).mono ?_
      rintro e y2 ⟨lv, rfl, hrow, hY2⟩
      have HST : Hid (Sts lv (stepW x m).p.js y2) := Sts.of hrow
      have HBa2 : Hid (Below y1.heap.size y1 y2) := hY2
      clear hrow hY2
      go_wp2_with fail
      refine (wDecided (HW2.out.below HBa2.out) HSTEP.out HDS.out HCS.out HPS.out lv HST.out).mono ?_
      rintro e y3 ⟨rfl, hY3⟩
      have HBa3 : Hid (Below y1.heap.size y1 y3) := HBa2.out.trans (hY3.mono HBa2.out.size)
      clear hY3 HBa2
      go_wp2_with fail
      refine (wCodes (HW2.out.below HBa3.out) HSTEP.out).mono ?_
      rintro e y4 ⟨cv, rfl, hcr, hY4⟩
      have HBa4 : Hid (Below y1.heap.size y1 y4) := HBa3.out.trans (hY4.mono HBa3.out.size)
      have HTX : Hid (Txs cv ((stepW x m).p.js.map (·.code)) y4) := by
        refine Txs.of (base := y3.heap.size) ?_
        rw [List.length_map, List.map_map]
        exact hcr
      have hs3 := HBa3.out.size
      have HLC : Hid (∀ g, cv.ownBlock = some g → y1.heap.size ≤ g ∧ g < y4.heap.size) := fun g hg => ⟨by have := (hcr.lt g hg).1; omega, (hcr.lt g hg).2⟩
      clear hcr hY4 hs3
      have c3 := (HW2.out.below HBa4.out).c.2.2.2
      have k1 := (HW2.out.below HBa4.out).bm.bk.c 1
      simp at k1
      rw [← HBN.out] at k1
      have HFIN : Hid (∀ y5, Below y4.heap.size y4 y5 → ∃ D2 : Nat → Prop, (∀ j, D2 j → w.heap.size ≤ j) ∧ WMe D2 bw sy (stepW x m) y5 ∧ Below w.heap.size w y5 ∧ Txs cv ((stepW x m).p.js.map (·.code)) y5 ∧ ∀ g, cv.ownBlock = some g → ¬ D2 g) := by
        intro y5 hY5
        have hB5 := HBa4.out.trans (hY5.mono HBa4.out.size)
        have z1 := HB1.out.size
        have z4 := HBa4.out.size
        have z5 := hY5.size
        refine ⟨_, ?_, ⟨_, _, _, _, _, _, _, HW2.out.narrowD hB5⟩, HB1.out.trans (hB5.mono HB1.out.size), HTX.out.below hY5, ?_⟩
        · intro j hj
          rcases hj with q | q
          · exact HD.out j q.1
          · omega
        · intro g hg q
          have := HLC.out g hg
          rcases q with q | q
          · have := q.2; omega
          · omega
      by_cases hbb : bn1 = bn2
      · have hbb' : (bn1 : Int) = (bn2 : Int) := by omega
        have HEQ := HSC.out hbb.symm
        have HLA4 := HLA1.out.below HBa4.out
        rw [← HEQ] at HLA4
        have HTX2 : Hid (Txs _ ((stepW x m).p.js.map (·.code)) y4) := HLA4
        clear HEQ HLA4
        subst hbb
        go_wp2_with fail
        refine (kSameTexts _ _ _ y4 HTX2.out HTX.out (by rw [List.length_map]; omega)).mono ?_
        rintro e y5 ⟨rfl, hY5⟩
        obtain ⟨D2, f1, f2, f3, f4, f5⟩ := HFIN.out y5 hY5
        have F1 : Hid (∀ j, D2 j → w.heap.size ≤ j) := f1
        have F2 : Hid (WMe D2 bw sy (stepW x m) y5) := f2
        have F3 : Hid (Below w.heap.size w y5) := f3
        have F4 : Hid (Txs cv ((stepW x m).p.js.map (·.code)) y5) := f4
        have F5 : Hid (∀ g, cv.ownBlock = some g → ¬ D2 g) := f5
        clear f1 f2 f3 f4 f5 hY5 c3 k1
        go_wp2_with fail
        go_roundg (len - (k + 1) + 1)
        case measure => omega
        case rel => exact ⟨k + 1, stepW x m, D2, by omega, rfl, by go_num, HSTEP, HDS, HCS, HPS, F1, F2, F3, F4, F5⟩
      · have hbb' : ¬ (bn1 : Int) = (bn2 : Int) := by omega
        obtain ⟨D2, f1, f2, f3, f4, f5⟩ := HFIN.out y4 (Below.refl _ _)
        have F1 : Hid (∀ j, D2 j → w.heap.size ≤ j) := f1
        have F2 : Hid (WMe D2 bw sy (stepW x m) y4) := f2
        have F3 : Hid (Below w.heap.size w y4) := f3
        have F4 : Hid (Txs cv ((stepW x m).p.js.map (·.code)) y4) := f4
        have F5 : Hid (∀ g, cv.ownBlock = some g → ¬ D2 g) := f5
        clear f1 f2 f3 f4 f5
        go_wp2_with fail
        go_roundg (len - (k + 1) + 1)
        case measure => omega
        case rel => exact ⟨k + 1, stepW x m, D2, by omega, rfl, by go_num, HSTEP, HDS, HCS, HPS, F1, F2, F3, F4, F5⟩
    · have hlt' : ¬ (k : Int) < (len : Int) := by omega
      go_wp2_with fail
      go_ret
      exact ⟨rfl, HB.out⟩

set_option maxRecDepth 100000 in
set_option maxHeartbeats 2000000 in
theorem Decides_walk (c : Int) (hc1 : -9223372036854775808 ≤ c) (hc2 : c ≤ 9223372036854775807) (a : Option Addr) (len cap : Nat) (w : World) (hM : IsMvs w a len cap) :
    Calls Tryz.prog 4 #[.int .i64 c, .slice a len cap] w fun e w' => e = .returned (.bool true) ∧ Below w.heap.size w w' := by
  go_enter Tryz.func4, Tryz.ntmps4
  go_wp2_with fail
  refine (walk_decides c hc1 hc2 a len cap w hM).mono ?_
  rintro e y ⟨rfl, hY⟩
  go_wp2_with fail
  go_ret
  exact ⟨rfl, hY⟩
end Go.Proofs.YtanknpmojblmcaaGreatDoor
