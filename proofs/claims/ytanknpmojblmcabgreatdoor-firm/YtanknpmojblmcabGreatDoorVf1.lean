/-
  BkX BkY RgN EnA EnB EnC FmA WmO FmB FmC WmJ WmK WmM WmN ApA ApB ApC FmD ApD ApE FmE, put together.
-/
import Derived.Test.YtanknpmojblmcabGreatDoorGc1
import Derived.Test.YtanknpmojblmcabGreatDoorGa2
import Derived.Test.YtanknpmojblmcabGreatDoorGd2
import Derived.Test.YtanknpmojblmcabGreatDoorGb2
import Derived.Test.YtanknpmojblmcabGreatDoorGe3
/-
  A world: the queue, room for a job.
-/
set_option linter.unusedSimpArgs false
set_option linter.unusedVariables false
namespace Go.Proofs.YtanknpmojblmcabGreatDoor

/-- How often a job stands among the first k of the queue. -/
def tmsQ (qs : List Nat) (id : Nat) : Nat → Nat
  | 0 => 0
  | k + 1 => tmsQ qs id k + (if qs.getD k 0 = id then 1 else 0)
def allQ (qs : List Nat) : Nat → Nat
  | 0 => 0
  | n + 1 => allQ qs n + tmsQ qs n qs.length
theorem tmsQ_no {qs : List Nat} {id : Nat} : ∀ k, k ≤ qs.length → (∀ j, j < k → qs.getD j 0 ≠ id) → tmsQ qs id k = 0 := by
  intro k
  induction k with
  | zero => intro _ _; rfl
  | succ k ih =>
    intro hk h
    unfold tmsQ
    rw [ih (by omega) (fun j hj => h j (by omega)), if_neg (h k (by omega))]
theorem tmsQ_mem {qs : List Nat} (hn : qs.Nodup) (id : Nat) : tmsQ qs id qs.length = if id ∈ qs then 1 else 0 := by
  have hp := List.pairwise_iff_getElem.mp hn
  have inj : ∀ i j, i < qs.length → j < qs.length → qs.getD i 0 = qs.getD j 0 → i = j := by
    intro i j hi hj he
    rw [show qs.getD i 0 = qs[i] from by simp [hi], show qs.getD j 0 = qs[j] from by simp [hj]] at he
    rcases Nat.lt_trichotomy i j with q | q | q
    · exact absurd he (hp i j hi hj q)
    · exact q
    · exact absurd he.symm (hp j i hj hi q)
  split
  · rename_i h
    obtain ⟨i, hi, rfl⟩ := List.getElem_of_mem h
    have hg : qs.getD i 0 = qs[i] := by simp [hi]
    have : ∀ k, k ≤ qs.length → tmsQ qs qs[i] k = if i < k then 1 else 0 := by
      intro k
      induction k with
      | zero => intro _; rfl
      | succ k ih =>
        intro hk
        unfold tmsQ
        rw [ih (by omega)]
        by_cases e : i = k
        · subst e; rw [if_neg (by omega), if_pos hg, if_pos (by omega)]
        · have : qs.getD k 0 ≠ qs[i] := fun q => e (inj i k hi (by omega) (by rw [hg]; exact q.symm))
          rw [if_neg this]
          by_cases q : i < k
          · rw [if_pos q, if_pos (by omega)]
          · rw [if_neg q, if_neg (by omega)]
    rw [this _ (Nat.le_refl _), if_pos hi]
  · rename_i h
    refine tmsQ_no _ (Nat.le_refl _) ?_
    intro j hj e
    apply h
    rw [← e]
    exact qs_mem hj
def sumK (qs : List Nat) (k : Nat) : Nat → Nat
  | 0 => 0
  | n + 1 => sumK qs k n + tmsQ qs n k
theorem sumK_succ (qs : List Nat) (k : Nat) : ∀ n, sumK qs (k + 1) n = sumK qs k n + (if qs.getD k 0 < n then 1 else 0) := by
  intro n
  induction n with
  | zero => rfl
  | succ n ih =>
    unfold sumK
    rw [ih]
    rw [show tmsQ qs n (k + 1) = tmsQ qs n k + (if qs.getD k 0 = n then 1 else 0) from rfl]
    by_cases e : qs.getD k 0 = n
    · rw [if_pos e, if_neg (by omega), if_pos (by omega)]; omega
    · rw [if_neg e]
      by_cases q : qs.getD k 0 < n
      · rw [if_pos q, if_pos (by omega)]; omega
      · rw [if_neg q, if_neg (by omega)]; omega
theorem allQ_sum (qs : List Nat) : ∀ n, allQ qs n = sumK qs qs.length n := by
  intro n
  induction n with
  | zero => rfl
  | succ n ih => unfold allQ sumK; rw [ih]
theorem allQ_len {qs : List Nat} {L : Nat} (h : ∀ i ∈ qs, i < L) : allQ qs L = qs.length := by
  rw [allQ_sum]
  have : ∀ k, k ≤ qs.length → sumK qs k L = k := by
    intro k
    induction k with
    | zero =>
      intro _
      have : ∀ n, sumK qs 0 n = 0 := by
        intro n
        induction n with
        | zero => rfl
        | succ n ih => unfold sumK; rw [ih]; rfl
      exact this L
    | succ k ih =>
      intro hk
      rw [sumK_succ, ih (by omega), if_pos (h _ (qs_mem (by omega)))]
  exact this _ (Nat.le_refl _)
/-- How many nodes others want, as load tells. -/
def othN (js : List PJ) (id : Nat) (m : Int) : Nat → Nat
  | 0 => 0
  | n + 1 => othN js id m n + (if n ≠ id ∧ wantsAt (js.getD n pj0) m = true then (js.getD n pj0).nd else 0)
theorem oth_want (js : List PJ) (id : Nat) (m : Int) : ∀ n, wantN js id m n = (js.getD id pj0).nd + othN js id m n := by
  intro n
  induction n with
  | zero => rfl
  | succ n ih => unfold wantN othN; rw [ih]; omega
theorem Stl.room {p : PS} (h : Stl p) {i : Nat} (hi : i < p.js.length) (hs : (p.js.getD i pj0).st = 1) : fitsF p.js p.nodes i (p.js.getD i pj0).sa = true := by
  rw [fits_iff]
  intro m h1 h2
  have h3 := load_tot p.js i m hi
  have h4 := (h.f.t i hi).s1 hs
  have h5 := h.f.c m (by omega)
  rw [wnA_of (by unfold hasS; rw [hs]; rfl) h1 (by unfold overJ; exact h2)] at h3
  omega
theorem Stl.soon {p : PS} (h : Stl p) {i : Nat} (hi : i < p.js.length) : (p.js.getD i pj0).sa ≤ p.now + 288 := by
  have := h.ok.n.sa _ (getD_in hi)
  have := h.ok.n.sum
  omega
end Go.Proofs.YtanknpmojblmcabGreatDoor

/-
  What a tree is worth, and its code.
-/
set_option linter.unusedSimpArgs false
set_option linter.unusedVariables false
namespace Go.Proofs.YtanknpmojblmcabGreatDoor

/-- A code that lays one value. -/
def PushC (ns : List Int) (d : Nat) (C : List UInt8) (v : Nat) : Prop :=
  ∀ (R : List UInt8) (S : List Nat) (a : Nat), S.length + d ≤ 24 → a ≤ ns.length → ∃ a', a' ≤ ns.length ∧ runM ns (C ++ R) (S, a, false) = runM ns R (v :: S, a', false)
theorem PushC.up {ns : List Int} {d e : Nat} {C : List UInt8} {v : Nat} (h : PushC ns d C v) (hd : d ≤ e) : PushC ns e C v := fun R S a h1 h2 => h R S a (by omega) h2
theorem layM_ok {v : Nat} {S : List Nat} {a : Nat} (h : S.length + 1 ≤ 24) : layM v (S, a, false) = (v :: S, a, false) := by
  unfold layM
  rw [if_neg (by simp; omega)]
theorem push_true (ns : List Int) : PushC ns 1 [0] 1 := by
  intro R S a h1 h2
  refine ⟨a, h2, ?_⟩
  show runM ns (0 :: R) (S, a, false) = _
  rw [runM_plain ns 0 R S a (by decide)]
  unfold plainM
  rw [if_pos (by decide), layM_ok h1]
theorem push_ask {ns : List Int} {op j : Nat} (h1 : 1 ≤ op) (h4 : op ≤ 4) (hj : j < ns.length) (hn : ns.length ≤ 24) : PushC ns 1 [UInt8.ofNat op, UInt8.ofNat j] (askV ns op j) := by
  intro R S a q1 q2
  have e1 : (UInt8.ofNat op).toNat = op := by simp; omega
  have e2 : (UInt8.ofNat j).toNat = j := by simp; omega
  have hk : asksB (UInt8.ofNat op).toNat = true := by rw [e1]; unfold asksB; simp; omega
  refine ⟨askA j a, ?_, ?_⟩
  · unfold askA; split <;> omega
  · show runM ns (UInt8.ofNat op :: UInt8.ofNat j :: R) (S, a, false) = _
    rw [runM_ask ns _ _ R S a hk, e1, e2]
    unfold askM
    rw [if_neg (by omega), layM_ok q1]
theorem push_join {ns : List Int} {d e op : Nat} {C B : List UInt8} {v u : Nat} (ho : op = 5 ∨ op = 6) (h : PushC ns d C v) (k : PushC ns e B u) (hd : 1 ≤ d) : PushC ns (max d (e + 1)) (C ++ (B ++ [UInt8.ofNat op])) (joinV op v u) := by
  intro R S a q1 q2
  obtain ⟨a1, b1, c1⟩ := h (B ++ [UInt8.ofNat op] ++ R) S a (by omega) q2
  obtain ⟨a2, b2, c2⟩ := k (UInt8.ofNat op :: R) (v :: S) a1 (by simp; omega) b1
  refine ⟨a2, b2, ?_⟩
  rw [show C ++ (B ++ [UInt8.ofNat op]) ++ R = C ++ (B ++ [UInt8.ofNat op] ++ R) from by simp, c1, show B ++ [UInt8.ofNat op] ++ R = B ++ (UInt8.ofNat op :: R) from by simp, c2]
  have e1 : (UInt8.ofNat op).toNat = op := by rcases ho with rfl | rfl <;> rfl
  rw [runM_plain ns _ R _ a2 (by rw [e1]; rcases ho with rfl | rfl <;> decide), e1]
  unfold plainM
  rw [if_neg (by omega), if_pos ho]
  unfold joinM
  dsimp only
  rw [layM_ok (by omega)]
theorem vAnd_one {x : Nat} (h : x ≤ 2) : vAnd 1 x = x := by
  have : x = 0 ∨ x = 1 ∨ x = 2 := by omega
  rcases this with rfl | rfl | rfl <;> decide
theorem vAnd_assoc {x y z : Nat} (h1 : x ≤ 2) (h2 : y ≤ 2) (h3 : z ≤ 2) : vAnd (vAnd x y) z = vAnd x (vAnd y z) := by
  have a : x = 0 ∨ x = 1 ∨ x = 2 := by omega
  have b : y = 0 ∨ y = 1 ∨ y = 2 := by omega
  have c : z = 0 ∨ z = 1 ∨ z = 2 := by omega
  rcases a with rfl | rfl | rfl <;> rcases b with rfl | rfl | rfl <;> rcases c with rfl | rfl | rfl <;> decide
theorem vAnd_l2 (x y : Nat) : vAnd x y ≤ 2 := by unfold vAnd; split <;> (try split) <;> omega
theorem vOr_l2 (x y : Nat) : vOr x y ≤ 2 := by unfold vOr; split <;> (try split) <;> omega
theorem vP_l2 (op : Nat) (s : Int) : vP op s ≤ 2 := by
  have k : ∀ b, knw b ≤ 2 := by intro b; cases b <;> decide
  unfold vP
  split
  · omega
  split
  · exact k _
  split
  · exact k _
  split
  · exact k _
  · omega
theorem askV_le (ns : List Int) (op j : Nat) : askV ns op j ≤ 2 := by
  unfold askV
  split
  · exact vP_l2 _ _
  · omega
/-- All jobs of a list. -/
def allV (ns : List Int) (op : Nat) : List Nat → Nat
  | [] => 1
  | j :: r => vAnd (askV ns op j) (allV ns op r)
theorem allV_le (ns : List Int) (op : Nat) (js : List Nat) : allV ns op js ≤ 2 := by
  cases js with
  | nil => show 1 ≤ 2; omega
  | cons j r => exact vAnd_l2 _ _
theorem vAnd_x1 {x : Nat} (h : x ≤ 2) : vAnd x 1 = x := by
  have : x = 0 ∨ x = 1 ∨ x = 2 := by omega
  rcases this with rfl | rfl | rfl <;> decide
theorem allV_snoc (ns : List Int) (op : Nat) (l : List Nat) (j : Nat) : allV ns op (l ++ [j]) = vAnd (allV ns op l) (askV ns op j) := by
  induction l with
  | nil => show vAnd (askV ns op j) 1 = vAnd 1 (askV ns op j); rw [vAnd_x1 (askV_le _ _ _), vAnd_one (askV_le _ _ _)]
  | cons x r ih =>
    show vAnd (askV ns op x) (allV ns op (r ++ [j])) = vAnd (vAnd (askV ns op x) (allV ns op r)) (askV ns op j)
    rw [ih, vAnd_assoc (askV_le _ _ _) (allV_le _ _ _) (askV_le _ _ _)]
theorem push_askN {ns : List Int} {op : Nat} {js : List Nat} (h1 : 1 ≤ op) (h4 : op ≤ 4) (hj : ∀ j ∈ js, j < ns.length) (hn : ns.length ≤ 24) : ∀ n, 0 < n → n ≤ js.length → PushC ns 2 (askN op js n) (allV ns op (js.take n)) := by
  intro n
  induction n with
  | zero => intro h; omega
  | succ n ih =>
    intro _ hl
    have hg : js.getD n 0 = js[n] := by simp [show n < js.length by omega]
    have hm : js.getD n 0 < ns.length := by rw [hg]; exact hj _ (List.getElem_mem (by omega))
    have et : js.take (n + 1) = js.take n ++ [js.getD n 0] := by
      rw [List.take_add_one, List.getElem?_eq_getElem (by omega), hg]; rfl
    have hp := push_ask h1 h4 hm hn
    unfold askN
    rw [et, allV_snoc]
    by_cases e : n = 0
    · subst e
      simp only [askN, List.take_zero, allV, if_pos, List.nil_append, List.append_nil]
      rw [vAnd_one (askV_le _ _ _)]
      exact hp.up (by omega)
    · rw [if_neg e]
      have := push_join (op := 5) (Or.inl rfl) (ih (by omega) (by omega)) hp (by omega)
      rw [show askN op js n ++ [UInt8.ofNat op, UInt8.ofNat (js.getD n 0)] ++ [5] = askN op js n ++ ([UInt8.ofNat op, UInt8.ofNat (js.getD n 0)] ++ [UInt8.ofNat 5]) from by simp]
      exact this.up (by omega)
theorem push_all {ns : List Int} {op : Nat} {js : List Nat} (h1 : 1 ≤ op) (h4 : op ≤ 4) (hj : ∀ j ∈ js, j < ns.length) (hn : ns.length ≤ 24) : PushC ns 2 (askAll op js) (allV ns op js) := by
  unfold askAll
  split
  · rename_i h; subst h; exact (push_true ns).up (by omega)
  · rename_i h
    have : js.length ≠ 0 := fun e => h (List.eq_nil_of_length_eq_zero e)
    have := push_askN h1 h4 hj hn js.length (by omega) (Nat.le_refl _)
    rwa [List.take_length] at this

/-- The code of a step, its place left aside. -/
def stepX (before own : List GV) (nm : List UInt8) (y : SX) : List UInt8 :=
  if y.1 = 5 ∨ y.1 = 6 then [UInt8.ofNat y.1] else if y.1 = 4 then askAll 4 (earlG before nm) else askAll y.1 (jobsG (meantG before own y.2.1) y.2.2.1 y.2.2.2)
theorem stepX_eq (before own : List GV) (nm : List UInt8) (y : Stp) : stepX before own nm (nps y) = stepC before own nm y := rfl
def codeX (before own : List GV) (nm : List UInt8) (S : List SX) : List UInt8 := (S.map (stepX before own nm)).flatten
theorem codeX_app (before own : List GV) (nm : List UInt8) (a b : List SX) : codeX before own nm (a ++ b) = codeX before own nm a ++ codeX before own nm b := by simp [codeX]
theorem codeN_X (before own : List GV) (h : HV) : ∀ n, n ≤ h.want.length → codeN before own h n = codeX before own h.name ((h.want.take n).map nps) := by
  intro n
  induction n with
  | zero => intro _; rfl
  | succ n ih =>
    intro hn
    unfold codeN
    rw [ih (by omega), List.take_add_one, List.getElem?_eq_getElem (show n < h.want.length by omega), List.map_append, codeX_app]
    congr 1
    have : h.want.getD n (stp 0) = h.want[n] := by simp [show n < h.want.length by omega]
    rw [this]
    simp [codeX, stepX_eq]
theorem codeF_X (before own : List GV) (h : HV) : codeF before own h = if h.want.map nps = [] then [0] else codeX before own h.name (h.want.map nps) := by
  unfold codeF
  by_cases e : h.want = []
  · rw [if_pos e, if_pos (by rw [e]; rfl)]
  · rw [if_neg e, if_neg (by simpa using e), codeN_X _ _ _ _ (Nat.le_refl _), List.take_length]

/-- The value of a tree. -/
def valT (before own : List GV) (nm : List UInt8) (ns : List Int) : WT → Nat
  | .sg => allV ns 4 (earlG before nm)
  | .rf k r o => allV ns (k + 1) (jobsG (meantG before own r) o.isSome (o.getD 0))
  | .an s t => vAnd (valT before own nm ns s) (valT before own nm ns t)
  | .or s t => vOr (valT before own nm ns s) (valT before own nm ns t)
theorem valT_le (before own : List GV) (nm : List UInt8) (ns : List Int) (t : WT) : valT before own nm ns t ≤ 2 := by
  cases t with
  | sg => exact allV_le _ _ _
  | rf k r o => exact allV_le _ _ _
  | an s t => exact vAnd_l2 _ _
  | or s t => exact vOr_l2 _ _
/-- The values of its factors. -/
def fvT (before own : List GV) (nm : List UInt8) (ns : List Int) : WT → List Nat
  | .an s t => valT before own nm ns s :: fvT before own nm ns t
  | t => [valT before own nm ns t]
def andL : Nat → List Nat → Nat
  | v, [] => v
  | v, x :: r => andL (vAnd v x) r
theorem andL_fv (before own : List GV) (nm : List UInt8) (ns : List Int) : ∀ (t : WT) (v : Nat), v ≤ 2 → andL v (fvT before own nm ns t) = vAnd v (valT before own nm ns t) := by
  intro t
  induction t with
  | sg => intro v _; rfl
  | rf k r o => intro v _; rfl
  | or s t _ _ => intro v _; rfl
  | an s t _ iht =>
    intro v hv
    show andL (vAnd v (valT before own nm ns s)) (fvT before own nm ns t) = vAnd v (vAnd (valT before own nm ns s) (valT before own nm ns t))
    rw [iht _ (vAnd_l2 _ _), vAnd_assoc hv (valT_le _ _ _ _ _) (valT_le _ _ _ _ _)]
/-- The jobs that a tree asks for are there. -/
def InT (before own : List GV) (nm : List UInt8) (n : Nat) : WT → Prop
  | .sg => ∀ j ∈ earlG before nm, j < n
  | .rf k r o => k < 3 ∧ ∀ j ∈ jobsG (meantG before own r) o.isSome (o.getD 0), j < n
  | .an s t => InT before own nm n s ∧ InT before own nm n t
  | .or s t => InT before own nm n s ∧ InT before own nm n t
theorem push_tree {before own : List GV} {nm : List UInt8} {ns : List Int} (hn : ns.length ≤ 24) : ∀ (t : WT), InT before own nm ns.length t → PushC ns (2 + dpW t) (codeX before own nm (stW t)) (valT before own nm ns t) ∧
    (∀ (C : List UInt8) (v d : Nat), 1 ≤ d → v ≤ 2 → PushC ns d C v → PushC ns (max d (3 + dpW t)) (C ++ codeX before own nm (tlS 5 (fcW t))) (andL v (fvT before own nm ns t))) := by
  have one : ∀ (F : List SX) (x e : Nat), PushC ns e (codeX before own nm F) x → ∀ (C : List UInt8) (v d : Nat), 1 ≤ d → PushC ns d C v → PushC ns (max d (e + 1)) (C ++ codeX before own nm (tlS 5 [F])) (andL v [x]) := by
    intro F x e h C v d hd hC
    have := push_join (op := 5) (Or.inl rfl) hC h hd
    have e2 : codeX before own nm (tlS 5 [F]) = codeX before own nm F ++ [UInt8.ofNat 5] := by
      show codeX before own nm (F ++ jS 5 :: tlS 5 []) = _
      rw [codeX_app]; rfl
    rw [e2]
    exact this
  intro t
  induction t with
  | sg =>
    intro h
    have a : PushC ns 2 (codeX before own nm (stW .sg)) (valT before own nm ns .sg) := by
      have e : codeX before own nm (stW .sg) = askAll 4 (earlG before nm) := by simp [stW, codeX, stepX, jS]
      rw [e]; exact push_all (by omega) (by omega) h hn
    refine ⟨a.up (by simp [dpW]), ?_⟩
    intro C v d hd hv hC
    have := one _ _ _ a C v d hd hC
    have e : fcW .sg = [stW .sg] := by simp [fcW, stW]
    rw [e]
    exact this.up (by simp [dpW])
  | rf k r o =>
    intro h
    have a : PushC ns 2 (codeX before own nm (stW (.rf k r o))) (valT before own nm ns (.rf k r o)) := by
      have e : codeX before own nm (stW (.rf k r o)) = askAll (k + 1) (jobsG (meantG before own r) o.isSome (o.getD 0)) := by
        have h1 : ¬ (k + 1 = 5 ∨ k + 1 = 6) := by have := h.1; omega
        have h2 : ¬ k + 1 = 4 := by have := h.1; omega
        simp only [stW, codeX, List.map_cons, List.map_nil, List.flatten_cons, List.flatten_nil, List.append_nil, stepX]
        rw [if_neg h1, if_neg h2]
      rw [e]; exact push_all (by omega) (by have := h.1; omega) h.2 hn
    refine ⟨a.up (by simp [dpW]), ?_⟩
    intro C v d hd hv hC
    have := one _ _ _ a C v d hd hC
    have e : fcW (.rf k r o) = [stW (.rf k r o)] := by simp [fcW, stW]
    rw [e]
    exact this.up (by simp [dpW])
  | or s t ihs iht =>
    intro h
    obtain ⟨a1, _⟩ := ihs h.1
    obtain ⟨b1, _⟩ := iht h.2
    have a : PushC ns (3 + max (dpW s) (dpW t)) (codeX before own nm (stW (.or s t))) (valT before own nm ns (.or s t)) := by
      have := push_join (op := 6) (Or.inr rfl) a1 b1 (by omega)
      have e : codeX before own nm (stW (.or s t)) = codeX before own nm (stW s) ++ (codeX before own nm (stW t) ++ [UInt8.ofNat 6]) := by
        simp only [stW]; rw [codeX_app, codeX_app]; rfl
      rw [e]
      exact this.up (by omega)
    refine ⟨a.up (by simp only [dpW]; omega), ?_⟩
    intro C v d hd hv hC
    have := one _ _ _ a C v d hd hC
    have e : fcW (.or s t) = [stW (.or s t)] := by simp [fcW, stW]
    rw [e]
    exact this.up (by simp only [dpW]; omega)
  | an s t ihs iht =>
    intro h
    obtain ⟨a1, _⟩ := ihs h.1
    obtain ⟨_, b2⟩ := iht h.2
    constructor
    · have := b2 (codeX before own nm (stW s)) (valT before own nm ns s) (2 + dpW s) (by omega) (valT_le _ _ _ _ _) a1
      rw [andL_fv _ _ _ _ _ _ (valT_le _ _ _ _ _)] at this
      simp only [stW]
      rw [codeX_app]
      exact this.up (by simp only [dpW]; omega)
    · intro C v d hd hv hC
      have c1 := push_join (op := 5) (Or.inl rfl) hC a1 hd
      have c2 := b2 _ _ _ (by omega) (vAnd_l2 _ _) c1
      simp only [fcW, tlS]
      have e : codeX before own nm (stW s ++ jS 5 :: tlS 5 (fcW t)) = (codeX before own nm (stW s) ++ [UInt8.ofNat 5]) ++ codeX before own nm (tlS 5 (fcW t)) := by
        rw [codeX_app]
        have : codeX before own nm (jS 5 :: tlS 5 (fcW t)) = [UInt8.ofNat 5] ++ codeX before own nm (tlS 5 (fcW t)) := by
          rw [show jS 5 :: tlS 5 (fcW t) = [jS 5] ++ tlS 5 (fcW t) from rfl, codeX_app]; rfl
        rw [this, List.append_assoc]
      rw [e, ← List.append_assoc]
      exact c2.up (by simp only [dpW]; omega)
/-- What a code that lays one value is run to. -/
theorem push_run {ns : List Int} {d : Nat} {C : List UInt8} {v : Nat} (h : PushC ns d C v) (hd : d ≤ 24) (hl : C.length ≤ 8000) (hs : areS ns = true) : runE C ns = (v, 0) := by
  obtain ⟨a, ha, e⟩ := h [] [] 0 (by simpa using hd) (Nat.zero_le _)
  rw [List.append_nil] at e
  have e : runM ns C ([], 0, false) = (v :: [], a, false) := by rw [e]; rfl
  unfold runE
  rw [if_neg (by omega), e]
  rw [if_neg (by simp), if_neg (by simp [hs]; omega)]
  rfl
end Go.Proofs.YtanknpmojblmcabGreatDoor

/-
  A system that settles while one job may run, and while jobs that may not any more give up.
-/
set_option linter.unusedSimpArgs false
set_option linter.unusedVariables false
namespace Go.Proofs.YtanknpmojblmcabGreatDoor

theorem areS_st {js : List PJ} (h1 : js.length ≤ 24) (h2 : ∀ j ∈ js, j.st ≤ 6) : areS (stI js) = true := by
  unfold areS stI
  simp only [List.length_map, List.all_map, Bool.and_eq_true, decide_eq_true_eq]
  refine ⟨h1, ?_⟩
  rw [List.all_eq_true]
  intro j hj
  have := h2 j hj
  simp
  omega
/-- The code that asks nothing, and the one that asks of one job. -/
theorem run_true {ns : List Int} (h : areS ns = true) : (runE [0] ns).1 = 1 := by
  have e : runM ns [0] ([], 0, false) = ([1], 0, false) := rfl
  unfold runE
  rw [e, h]
  simp
theorem run_ask {ns : List Int} (h : areS ns = true) {op k : Nat} (h1 : 1 ≤ op) (h3 : op ≤ 3) (hk : k < ns.length) (hn : ns.length ≤ 24) : (runE [UInt8.ofNat op, UInt8.ofNat k] ns).1 = vP op (ns.getD k 0) := by
  have eo : (UInt8.ofNat op).toNat = op := by simp; omega
  have ek : (UInt8.ofNat k).toNat = k := by simp; omega
  have ha : asksB (UInt8.ofNat op).toNat = true := by rw [eo]; simp [asksB]; omega
  have e : runM ns [UInt8.ofNat op, UInt8.ofNat k] ([], 0, false) = ([vP op (ns.getD k 0)], k + 1, false) := by
    rw [runM_ask _ _ _ _ _ _ ha, eo, ek]
    unfold askM
    rw [if_neg (by omega)]
    unfold layM
    simp only [List.length_nil]
    rw [if_neg (by omega)]
    unfold askV askA
    rw [if_pos hk, if_pos (Nat.zero_le _)]
    rfl
  unfold runE
  rw [e, h]
  simp [show ¬ ns.length < k + 1 by omega]

/-- Nobody gives up. -/
theorem giveN_id {now : Int} {js : List PJ} (h : ∀ i, i < js.length → heldB js i 2 = false) : ∀ n, n ≤ js.length → giveN now js n = (js, false) := by
  intro n
  induction n with
  | zero => intro _; rfl
  | succ n ih =>
    intro hn
    unfold giveN
    rw [ih (by omega), if_neg (by rw [h n (by omega)]; decide)]
theorem giveUp_id {p : PS} (h : ∀ i, i < p.js.length → heldB p.js i 2 = false) : giveUpF p = p := by
  unfold giveUpF giveF
  rw [giveN_id h _ (Nat.le_refl _)]
  rfl
/-- What may become of jobs while some give up. -/
def Gave (now : Int) (js X : List PJ) : Prop := X.length = js.length ∧ ∀ i, X.getD i pj0 = js.getD i pj0 ∨ ((js.getD i pj0).st = 0 ∧ X.getD i pj0 = (((js.getD i pj0).toSt 6).toEn now))
theorem Gave.refl (now : Int) (js : List PJ) : Gave now js js := ⟨rfl, fun i => Or.inl rfl⟩
theorem giveN_gave (now : Int) (js : List PJ) : ∀ n, n ≤ js.length → Gave now js (giveN now js n).1 ∧ ((giveN now js n).2 = false → (giveN now js n).1 = js ∧ ∀ i, i < n → heldB js i 2 = false) := by
  intro n
  induction n with
  | zero => intro _; exact ⟨Gave.refl _ _, fun _ => ⟨rfl, fun i hi => by omega⟩⟩
  | succ n ih =>
    intro hn
    obtain ⟨⟨h1, h2⟩, h3⟩ := ih (by omega)
    have hi : n < (giveN now js n).1.length := by omega
    unfold giveN
    split
    · rename_i hc
      refine ⟨⟨by simpa using h1, ?_⟩, fun e => by simp at e⟩
      intro i
      dsimp only
      rw [getD_set hi]
      split
      · rename_i e
        subst e
        have h0 : ((giveN now js i).1.getD i pj0).st = 0 := by
          unfold heldB at hc
          simp at hc
          simpa using hc.1
        rcases h2 i with q | ⟨q1, q2⟩
        · right
          rw [q] at h0
          exact ⟨h0, by rw [q]⟩
        · rw [q2] at h0
          simp [PJ.toSt, PJ.toEn] at h0
      · exact h2 i
    · rename_i hc
      refine ⟨⟨h1, h2⟩, fun e => ?_⟩
      obtain ⟨q1, q2⟩ := h3 e
      refine ⟨q1, fun i hi' => ?_⟩
      by_cases e2 : i = n
      · subst e2
        rw [q1] at hc
        simpa using hc
      · exact q2 i (by omega)
theorem Gave.trans {now : Int} {a b c : List PJ} (h : Gave now a b) (k : Gave now b c) : Gave now a c := by
  refine ⟨k.1.trans h.1, fun i => ?_⟩
  rcases k.2 i with q | ⟨q1, q2⟩
  · rw [q]; exact h.2 i
  · rcases h.2 i with r | ⟨r1, r2⟩
    · right; rw [r] at q1 q2; exact ⟨q1, q2⟩
    · rw [r2] at q1; simp [PJ.toSt, PJ.toEn] at q1
theorem giveF_spec (now : Int) : ∀ (k : Nat) (js : List PJ), cntH js < k → Gave now js (giveF now k js) ∧ ∀ i, i < js.length → heldB (giveF now k js) i 2 = false := by
  intro k
  induction k with
  | zero => intro js h; omega
  | succ k ih =>
    intro js h
    obtain ⟨h1, h2⟩ := giveN_gave now js js.length (Nat.le_refl _)
    have h3 := giveN_cnt now js js.length (Nat.le_refl _)
    unfold giveF
    split
    · rename_i hc
      obtain ⟨i1, i2⟩ := ih (giveN now js js.length).1 (by have := h3.2 hc; omega)
      exact ⟨h1.trans i1, fun i hi => i2 i (by rw [h1.1]; exact hi)⟩
    · rename_i hc
      obtain ⟨q1, q2⟩ := h2 (by simpa using hc)
      exact ⟨h1, fun i hi => by rw [q1]; exact q2 i hi⟩
theorem giveUp_spec (p : PS) : Gave p.now p.js (giveUpF p).js ∧ ∀ i, i < p.js.length → heldB (giveUpF p).js i 2 = false := giveF_spec p.now _ p.js (Nat.lt_succ_self _)

theorem moveUp_nil {p : PS} (h : p.qs = []) : moveUpF p = p := by
  unfold moveUpF moveF
  rw [h]
  rfl
theorem all_now {now : Int} {js : List PJ} (h : ∀ i, hasS (js.getD i pj0) = false) : ∀ n, allN now js n = now := by
  intro n
  induction n with
  | zero => rfl
  | succ n ih =>
    unfold allN
    rw [if_neg (by rw [h n]; simp), ih]
theorem early_now {now : Int} {js : List PJ} (h : ∀ i, hasS (js.getD i pj0) = false) (nodes id : Nat) : earlF js nodes id now = now := by
  unfold earlF allF
  rw [all_now h]
  simp [earlN]
/-- Nobody is queued. -/
theorem queN_id {p : PS} (h : ∀ i, i < p.js.length → heldB p.js i 1 = false) : ∀ n, n ≤ p.js.length → queN p n = (p.js, p.qs) := by
  intro n
  induction n with
  | zero => intro _; rfl
  | succ n ih =>
    intro hn
    unfold queN
    rw [ih (by omega), if_neg (by rw [h n (by omega)]; decide)]
theorem settle_none {p : PS} (hq : p.qs = []) (h : ∀ i, i < p.js.length → heldB (giveUpF p).js i 1 = false) : settleF p = giveUpF p := by
  have hl : (giveUpF p).js.length = p.js.length := (giveUp_spec p).1.1
  have hq' : (giveUpF p).qs = [] := hq
  unfold settleF
  rw [moveUp_nil hq']
  have hqn := queN_id (p := giveUpF p) (by rw [hl]; exact h) (giveUpF p).js.length (Nat.le_refl _)
  have e : queueUpF (giveUpF p) = giveUpF p := by
    unfold queueUpF
    rw [hqn]
  rw [e]
  unfold beginF
  rw [hq']
  simp only [List.length_nil, begN]
  cases hp : giveUpF p with
  | mk gs nodes now js qs => rw [hp] at hq'; simp at hq'; subst hq'; rfl

def runJ (j : PJ) (now : Int) : PJ := ((j.toSt 1).toSa now).toSt 2
/-- One job may run, and no other. -/
theorem settle_one {p : PS} (hq : p.qs = []) (hs : ∀ i, hasS (p.js.getD i pj0) = false) (h2 : ∀ i, i < p.js.length → heldB p.js i 2 = false) (m : Nat) (hm : m < p.js.length) (hm1 : heldB p.js m 1 = true)
    (ho : ∀ i, i < p.js.length → i ≠ m → heldB p.js i 1 = false ∧ heldB (p.js.set m (((p.js.getD m pj0).toSt 1).toSa p.now)) i 1 = false) : settleF p = { p with js := p.js.set m (runJ (p.js.getD m pj0) p.now) } := by
  have hqn : ∀ n, n ≤ p.js.length → queN p n = if m < n then (p.js.set m (((p.js.getD m pj0).toSt 1).toSa p.now), [m]) else (p.js, []) := by
    intro n
    induction n with
    | zero => intro _; unfold queN; rw [if_neg (by omega), hq]
    | succ n ih =>
      intro hn
      unfold queN
      rw [ih (by omega)]
      by_cases e : m < n
      · rw [if_pos e, if_neg (by rw [(ho n (by omega) (by omega)).2]; decide), if_pos (show m < n + 1 by omega)]
      · rw [if_neg e]
        by_cases e2 : m = n
        · subst e2
          rw [if_pos hm1, if_pos (show m < m + 1 by omega)]
          dsimp only
          rw [early_now hs]
          rfl
        · rw [if_neg (by rw [(ho n (by omega) (by omega)).1]; decide), if_neg (show ¬ m < n + 1 by omega)]
  unfold settleF
  rw [giveUp_id h2, moveUp_nil hq]
  have e : queueUpF p = { p with js := p.js.set m (((p.js.getD m pj0).toSt 1).toSa p.now), qs := [m] } := by
    unfold queueUpF
    rw [hqn p.js.length (Nat.le_refl _), if_pos hm]
  rw [e]
  unfold beginF
  dsimp only
  have hb : begN p.now [m] (p.js.set m (((p.js.getD m pj0).toSt 1).toSa p.now)) 1 = ((p.js.set m (((p.js.getD m pj0).toSt 1).toSa p.now)).set m ((((p.js.set m (((p.js.getD m pj0).toSt 1).toSa p.now)).getD m pj0)).toSt 2), []) := by
    unfold begN
    have e1 : ([m] : List Nat).getD 0 0 = m := rfl
    simp only [begN, e1]
    rw [if_pos (by rw [getD_set hm, if_pos rfl]; rfl)]
  simp only [List.length_singleton]
  rw [hb]
  dsimp only
  rw [List.set_set, getD_set hm, if_pos rfl]
  cases p with
  | mk gs nodes now js qs => dsimp only at hq; subst hq; rfl
end Go.Proofs.YtanknpmojblmcabGreatDoor

/-
  What the codes of the book's heads are worth, and how long.
-/
set_option linter.unusedSimpArgs false
set_option linter.unusedVariables false
namespace Go.Proofs.YtanknpmojblmcabGreatDoor

theorem vAnd_zero {a b : Nat} (ha : a ≤ 2) (hb : b ≤ 2) (h : vAnd a b = 0) : a = 0 ∨ b = 0 := by
  unfold vAnd at h
  split at h
  · omega
  split at h
  · omega
  · omega
theorem vOr_zero {a b : Nat} (ha : a ≤ 2) (hb : b ≤ 2) (h : vOr a b = 0) : a = 0 ∨ b = 0 := by
  unfold vOr at h
  split at h
  · omega
  split at h
  · omega
  · omega
theorem vAnd_mo {a b a' b' : Nat} (h : a ≠ 0 → a' = a) (k : b ≠ 0 → b' = b) (q : vAnd a b ≠ 0) : vAnd a' b' = vAnd a b := by
  unfold vAnd at *
  by_cases e : a = 2 ∨ b = 2
  · rw [if_pos e, if_pos]
    rcases e with e | e
    · left; rw [h (by omega)]; exact e
    · right; rw [k (by omega)]; exact e
  · rw [if_neg e] at q ⊢
    by_cases f : a = 1 ∧ b = 1
    · rw [if_pos f, h (by omega), k (by omega), if_neg e, if_pos f]
    · rw [if_neg f] at q; exact absurd rfl q
theorem vOr_mo {a b a' b' : Nat} (h : a ≠ 0 → a' = a) (k : b ≠ 0 → b' = b) (q : vOr a b ≠ 0) : vOr a' b' = vOr a b := by
  unfold vOr at *
  by_cases e : a = 1 ∨ b = 1
  · rw [if_pos e, if_pos]
    rcases e with e | e
    · left; rw [h (by omega)]; exact e
    · right; rw [k (by omega)]; exact e
  · rw [if_neg e] at q ⊢
    by_cases f : a = 2 ∧ b = 2
    · rw [if_pos f, h (by omega), k (by omega), if_neg e, if_pos f]
    · rw [if_neg f] at q; exact absurd rfl q
theorem knw_pos (b : Bool) : knw b ≠ 0 := by cases b <;> decide
theorem askV_zero {ns : List Int} {op j : Nat} (hj : j < ns.length) (h : askV ns op j = 0) : ns.getD j 0 < 3 := by
  unfold askV at h
  rw [if_pos hj] at h
  unfold vP at h
  split at h
  · assumption
  split at h
  · exact absurd h (knw_pos _)
  split at h
  · exact absurd h (knw_pos _)
  split at h
  · exact absurd h (knw_pos _)
  · omega
theorem askV_mo {ns ns' : List Int} {op j : Nat} (hj : j < ns.length) (hj' : j < ns'.length) (k : 3 ≤ ns.getD j 0 → ns'.getD j 0 = ns.getD j 0) (h : askV ns op j ≠ 0) : askV ns' op j = askV ns op j := by
  unfold askV at *
  rw [if_pos hj] at *
  rw [if_pos hj']
  have : ¬ ns.getD j 0 < 3 := by
    intro q
    apply h
    unfold vP
    rw [if_pos q]
  rw [k (by omega)]
theorem allV_wt {ns : List Int} {op n : Nat} (hn : n ≤ ns.length) : ∀ (l : List Nat), (∀ j ∈ l, j < n) → allV ns op l = 0 → ∃ j, j < n ∧ ns.getD j 0 < 3 := by
  intro l
  induction l with
  | nil => intro _ h; simp [allV] at h
  | cons x r ih =>
    intro hl h
    rcases vAnd_zero (askV_le _ _ _) (allV_le _ _ _) h with q | q
    · have hx := hl x (by simp)
      exact ⟨x, hx, askV_zero (by omega) q⟩
    · exact ih (fun j hj => hl j (by simp [hj])) q
theorem allV_mo {ns ns' : List Int} {op n : Nat} (hn : n ≤ ns.length) (hn' : n ≤ ns'.length) (k : ∀ j, j < n → 3 ≤ ns.getD j 0 → ns'.getD j 0 = ns.getD j 0) : ∀ (l : List Nat), (∀ j ∈ l, j < n) → allV ns op l ≠ 0 → allV ns' op l = allV ns op l := by
  intro l
  induction l with
  | nil => intro _ _; rfl
  | cons x r ih =>
    intro hl h
    have hx := hl x (by simp)
    exact vAnd_mo (fun q => askV_mo (by omega) (by omega) (k x hx) q) (fun q => ih (fun j hj => hl j (by simp [hj])) q) h
theorem valT_wt {before own : List GV} {nm : List UInt8} {ns : List Int} {n : Nat} (hn : n ≤ ns.length) : ∀ (t : WT), InT before own nm n t → valT before own nm ns t = 0 → ∃ j, j < n ∧ ns.getD j 0 < 3 := by
  intro t
  induction t with
  | sg => intro h q; exact allV_wt hn _ h q
  | rf k r o => intro h q; exact allV_wt hn _ h.2 q
  | an s t ihs iht =>
    intro h q
    rcases vAnd_zero (valT_le _ _ _ _ _) (valT_le _ _ _ _ _) q with q | q
    · exact ihs h.1 q
    · exact iht h.2 q
  | or s t ihs iht =>
    intro h q
    rcases vOr_zero (valT_le _ _ _ _ _) (valT_le _ _ _ _ _) q with q | q
    · exact ihs h.1 q
    · exact iht h.2 q
theorem valT_mo {before own : List GV} {nm : List UInt8} {ns ns' : List Int} {n : Nat} (hn : n ≤ ns.length) (hn' : n ≤ ns'.length) (k : ∀ j, j < n → 3 ≤ ns.getD j 0 → ns'.getD j 0 = ns.getD j 0) : ∀ (t : WT), InT before own nm n t → valT before own nm ns t ≠ 0 → valT before own nm ns' t = valT before own nm ns t := by
  intro t
  induction t with
  | sg => intro h q; exact allV_mo hn hn' k _ h q
  | rf k2 r o => intro h q; exact allV_mo hn hn' k _ h.2 q
  | an s t ihs iht => intro h q; exact vAnd_mo (ihs h.1) (iht h.2) q
  | or s t ihs iht => intro h q; exact vOr_mo (ihs h.1) (iht h.2) q
theorem InT.up {before own : List GV} {nm : List UInt8} {n m : Nat} (hm : n ≤ m) : ∀ (t : WT), InT before own nm n t → InT before own nm m t := by
  intro t
  induction t with
  | sg => intro h j hj; have := h j hj; omega
  | rf k r o => intro h; exact ⟨h.1, fun j hj => by have := h.2 j hj; omega⟩
  | an s t ihs iht => intro h; exact ⟨ihs h.1, iht h.2⟩
  | or s t ihs iht => intro h; exact ⟨ihs h.1, iht h.2⟩
theorem areS_len {ns : List Int} (h : areS ns = true) : ns.length ≤ 24 := by
  unfold areS at h
  simp only [Bool.and_eq_true, decide_eq_true_eq] at h
  exact h.1

/-- A code that asks for jobs below n alone. -/
structure CodeM (C : List UInt8) (n : Nat) : Prop where
  er : ∀ ns : List Int, n ≤ ns.length → areS ns = true → (runE C ns).2 = 0
  le : ∀ ns : List Int, n ≤ ns.length → areS ns = true → (runE C ns).1 ≤ 2
  wt : ∀ ns : List Int, n ≤ ns.length → areS ns = true → (runE C ns).1 = 0 → ∃ j, j < n ∧ ns.getD j 0 < 3
  mo : ∀ ns ns' : List Int, n ≤ ns.length → n ≤ ns'.length → areS ns = true → areS ns' = true → (∀ j, j < n → 3 ≤ ns.getD j 0 → ns'.getD j 0 = ns.getD j 0) → (runE C ns).1 ≠ 0 → (runE C ns').1 = (runE C ns).1
theorem CodeM.up {C : List UInt8} {n m : Nat} (h : CodeM C n) (hm : n ≤ m) : CodeM C m :=
  ⟨fun ns a b => h.er ns (by omega) b, fun ns a b => h.le ns (by omega) b, fun ns a b c => by obtain ⟨j, h1, h2⟩ := h.wt ns (by omega) b c; exact ⟨j, by omega, h2⟩,
    fun ns ns' a a' b b' k c => h.mo ns ns' (by omega) (by omega) b b' (fun j hj => k j (by omega)) c⟩
theorem code_none (n : Nat) : CodeM [0] n := by
  have e : ∀ ns : List Int, areS ns = true → runE [0] ns = (1, 0) := fun ns hs => push_run (push_true ns) (by omega) (by simp) hs
  exact ⟨fun ns _ hs => by rw [e ns hs], fun ns _ hs => by rw [e ns hs]; decide, fun ns _ hs q => by rw [e ns hs] at q; simp at q, fun ns ns' _ _ hs hs' _ _ => by rw [e ns hs, e ns' hs']⟩
theorem code_tree {before own : List GV} {nm : List UInt8} {t : WT} {n : Nat} (h : InT before own nm n t) (hd : dpW t ≤ 2) (hl : (codeX before own nm (stW t)).length ≤ 8000) : CodeM (codeX before own nm (stW t)) n := by
  have e : ∀ ns : List Int, n ≤ ns.length → areS ns = true → runE (codeX before own nm (stW t)) ns = (valT before own nm ns t, 0) := by
    intro ns hn hs
    exact push_run (push_tree (areS_len hs) t (InT.up hn t h)).1 (by omega) hl hs
  refine ⟨fun ns hn hs => by rw [e ns hn hs], fun ns hn hs => by rw [e ns hn hs]; exact valT_le _ _ _ _ _, fun ns hn hs q => ?_, fun ns ns' hn hn' hs hs' k q => ?_⟩
  · rw [e ns hn hs] at q
    exact valT_wt hn t h q
  · rw [e ns hn hs] at q ⊢
    rw [e ns' hn' hs']
    exact valT_mo hn hn' k t h q

variable {ms ns : List MB} {bn bj nodes : Nat} {T : List UInt8} {hs : List HV}
theorem cntM_take_mono (l : List MB) {a b : Nat} (h : a ≤ b) : cntM (l.take a) ≤ cntM (l.take b) := by
  have : l.take b = l.take a ++ (l.take b).drop a := by
    have e := (List.take_append_drop a (l.take b)).symm
    rwa [List.take_take, Nat.min_eq_left h] at e
  rw [this, cntM_app]
  omega
theorem BatOf.inT (B : BatOf ms bn bj nodes T ns hs) (hb : BkOK ms bn bj) (nm : List UInt8) {k : Nat} (hk : k < ns.length) : ∀ (t : WT), OkW t → AllW (RefB (ms ++ ns.take k) (onL (kB T) (nB T)) (bn + 1)) t → InT (ms.map grpM) (ns.map grpM) nm (bj + cntM (ns.take k)) t := by
  have hms : ∀ m ∈ ms, m.first + m.count ≤ bj := by
    intro m hm
    obtain ⟨x, hx, rfl⟩ := List.getElem_of_mem hm
    have e : ms.getD x mb0 = ms[x] := by simp [hx]
    have := sum_take_le ms x hx
    have h2 := hb.fst x hx
    rw [e] at this h2
    rw [h2, ← hb.cnt]
    exact this
  intro t
  induction t with
  | sg =>
    intro _ _ j hj
    unfold earlG at hj
    obtain ⟨g, hg, hj⟩ := List.mem_flatMap.1 hj
    obtain ⟨m, hm, rfl⟩ := List.mem_map.1 hg
    have := hms m hm
    split at hj
    · obtain ⟨q, hq, rfl⟩ := List.mem_map.1 hj
      have hq := List.mem_range.1 hq
      have hq : q < m.count := hq
      show m.first + q < _
      omega
    · simp at hj
  | rf op r o =>
    intro h1 h2
    refine ⟨h1.1, ?_⟩
    obtain ⟨q1, q2⟩ := B.meant hb.bat hk h2
    intro j hj
    cases e : meantG (ms.map grpM) (ns.map grpM) r with
    | none => rw [e] at hj; simp [jobsG] at hj
    | some g =>
      have hg : g.first + g.count ≤ bj + cntM (ns.take k) := by
        unfold meantG at e
        split at e
        · rename_i i hi
          have hik := q2 i (by rw [← hi]; simp)
          have hil : i < ns.length := by omega
          rw [List.getElem?_map, List.getElem?_eq_getElem hil] at e
          have e := Option.some.inj e
          subst e
          have e2 : ns.getD i mb0 = ns[i] := by simp [hil]
          have h3 := (B.hd i hil).ft
          rw [e2] at h3
          show ns[i].first + ns[i].count ≤ _
          rw [h3]
          have h4 := cntM_take_mono ns (show i + 1 ≤ k by omega)
          rw [take_snoc ns hil, cntM_app, e2] at h4
          have h5 : cntM [ns[i]] = ns[i].count := by simp [cntM]
          omega
        · split at e
          · rename_i x hx
            cases hq : (ms.map grpM)[x]? with
            | none => rw [hq] at e; simp at e
            | some g' =>
              rw [hq] at e
              have e := Option.some.inj e
              subst e
              have hm0 := List.mem_of_getElem? hq
              obtain ⟨m, hm, rfl⟩ := List.mem_map.1 hm0
              have := hms m hm
              show m.first + m.count ≤ _
              omega
          · simp at e
      rw [e] at hj q1
      unfold jobsG at hj
      unfold existsG at q1
      dsimp only at hj q1
      split at hj
      · rename_i hn
        rw [hn] at q1
        simp at q1 hj
        omega
      · obtain ⟨q, hq, rfl⟩ := List.mem_map.1 hj
        have hq := List.mem_range.1 hq
        omega
  | an s t ihs iht => intro h1 h2; exact ⟨ihs h1.1 h2.1, iht h1.2 h2.2⟩
  | or s t ihs iht => intro h1 h2; exact ⟨ihs h1.1 h2.1, iht h1.2 h2.2⟩
theorem BatOf.codeM (B : BatOf ms bn bj nodes T ns hs) (hb : BkOK ms bn bj) {k : Nat} (hk : k < ns.length) (hl : (codeF (ms.map grpM) (ns.map grpM) (hs.getD k hv0)).length ≤ 8000) : CodeM (codeF (ms.map grpM) (ns.map grpM) (hs.getD k hv0)) (bj + cntM (ns.take k)) := by
  obtain ⟨q1, _, _, _, _, _, q7⟩ := hvX_job (B.hv k hk)
  have H := B.hd k hk
  rw [codeF_X, q7] at hl ⊢
  split at hl
  · rename_i e
    rw [if_pos e]
    exact code_none _
  · rename_i e
    rw [if_neg e]
    unfold stM at *
    cases ht : (ns.getD k mb0).tree with
    | none => rw [ht] at e; simp at e
    | some t =>
      rw [ht] at hl
      obtain ⟨a, b⟩ := H.good.tr t ht
      exact code_tree (B.inT hb _ hk t b (H.rf t ht)) a hl

/-- Codes of jobs that ask for jobs of smaller numbers alone. -/
def CodeA (js : List PJ) : Prop := ∀ i, i < js.length → CodeM (js.getD i pj0).code i
theorem CodeA.same {js js' : List PJ} (h : CodeA js) (hl : js'.length = js.length) (hc : ∀ i, i < js.length → (js'.getD i pj0).code = (js.getD i pj0).code) : CodeA js' := by
  intro i hi
  rw [hc i (by omega)]
  exact h i (by omega)
theorem BatOf.codes (B : BatOf ms bn bj nodes T ns hs) (hb : BkOK ms bn bj) {p : PS} (hp : p.gs = ms.map grpM) (hj : p.js.length = bj) (hc : cntM ms ≤ 24) (hA : CodeA p.js) : ∀ n, n ≤ ns.length → CodeA (takeN p (ns.map grpM) hs n) := by
  intro n
  induction n with
  | zero => intro _; exact hA
  | succ n ih =>
    intro hn
    have h1 := ih (by omega)
    have hl := takeN_len p (ns.map grpM) hs n (by simp; omega)
    have hlt : n < ns.length := by omega
    rw [← List.map_take, cntG_map, hj] at hl
    have hcl : (codeF (ms.map grpM) (ns.map grpM) (hs.getD n hv0)).length ≤ 8000 := by
      refine code_len ?_ ?_ ?_ (B.wlen (by omega))
      · rw [cntG_map]; exact hc
      · intro g hg'
        obtain ⟨m, hm, rfl⟩ := List.mem_map.1 hg'
        have := (hb.good m hm).c6
        show m.count ≤ 24
        omega
      · intro g hg'
        obtain ⟨m, hm, rfl⟩ := List.mem_map.1 hg'
        obtain ⟨j, hj, rfl⟩ := List.getElem_of_mem hm
        have := (B.hd j hj).good.c6
        rw [show ns.getD j mb0 = ns[j] from by simp [hj]] at this
        show ns[j].count ≤ 24
        omega
    have hM := B.codeM hb hlt hcl
    unfold takeN
    intro i hi
    rw [getD_app]
    split
    · exact h1 i (by assumption)
    · rename_i hge
      rw [List.length_append, List.length_replicate] at hi
      have hin : i - (takeN p (ns.map grpM) hs n).length < ((ns.map grpM).getD n noG).count := by omega
      have e : (List.replicate ((ns.map grpM).getD n noG).count (newJ (codeF p.gs (ns.map grpM) (hs.getD n hv0)) (hs.getD n hv0).nodes (hs.getD n hv0).time)).getD (i - (takeN p (ns.map grpM) hs n).length) pj0 = newJ (codeF p.gs (ns.map grpM) (hs.getD n hv0)) (hs.getD n hv0).nodes (hs.getD n hv0).time := by
        rw [List.getD_eq_getElem?_getD, List.getElem?_replicate, if_pos hin]
        rfl
      rw [e]
      show CodeM (codeF p.gs (ns.map grpM) (hs.getD n hv0)) i
      rw [hp]
      exact hM.up (by omega)

/-- Values stay. -/
structure OkL (js : List PJ) : Prop where
  ln : js.length ≤ 24
  st : ∀ j ∈ js, j.st ≤ 6
theorem OkL.are {js : List PJ} (h : OkL js) : areS (stI js) = true := areS_st h.ln h.st
theorem stI_len (js : List PJ) : (stI js).length = js.length := by simp [stI]
theorem stI_get (js : List PJ) {i : Nat} (h : i < js.length) : (stI js).getD i 0 = ((js.getD i pj0).st : Int) := by
  simp [stI, h]
theorem val_mo {js js' : List PJ} (hA : CodeA js) (ho : OkL js) (ho' : OkL js') (hl : js.length ≤ js'.length) (hc : ∀ i, i < js.length → (js'.getD i pj0).code = (js.getD i pj0).code) (hst : ∀ i, i < js.length → 3 ≤ (js.getD i pj0).st → (js'.getD i pj0).st = (js.getD i pj0).st) {i : Nat} (hi : i < js.length) (h : valJ js i ≠ 0) : valJ js' i = valJ js i := by
  unfold valJ at *
  rw [hc i hi]
  refine (hA i hi).mo (stI js) (stI js') (by rw [stI_len]; omega) (by rw [stI_len]; omega) ho.are ho'.are ?_ h
  intro j hj
  rw [stI_get js (by omega), stI_get js' (by omega)]
  intro q
  rw [hst j (by omega) (by omega)]
theorem val_low {js js' : List PJ} (hA : CodeA js) (ho : OkL js) (ho' : OkL js') (hl : js'.length = js.length) (hc : ∀ i, i < js.length → (js'.getD i pj0).code = (js.getD i pj0).code) (hst : ∀ i, i < js.length → (js'.getD i pj0).st = (js.getD i pj0).st ∨ ((js.getD i pj0).st < 3 ∧ (js'.getD i pj0).st < 3)) {i : Nat} (hi : i < js.length) : valJ js' i = valJ js i := by
  by_cases h : valJ js i = 0
  · by_cases h' : valJ js' i = 0
    · rw [h, h']
    · refine (val_mo (hA.same hl hc) ho' ho (by omega) (fun i hi => (hc i (by omega)).symm) ?_ (by omega) h').symm
      intro i hi q
      rcases hst i (by omega) with r | r
      · exact r.symm
      · omega
  · refine val_mo hA ho ho' (by omega) hc ?_ hi h
    intro i hi q
    rcases hst i (by omega) with r | r
    · exact r
    · omega
end Go.Proofs.YtanknpmojblmcabGreatDoor

/-
  What settles is decided as the codes tell.
-/
set_option linter.unusedSimpArgs false
set_option linter.unusedVariables false
namespace Go.Proofs.YtanknpmojblmcabGreatDoor

/-- What was decided was decided rightly. -/
def PreD (js : List PJ) : Prop := ∀ i, i < js.length → (1 ≤ (js.getD i pj0).st → (js.getD i pj0).st ≤ 4 → valJ js i = 1) ∧ ((js.getD i pj0).st = 6 → valJ js i = 2)
structure DecJ (js : List PJ) : Prop where
  c : CodeA js
  p : PreD js
  h : ∀ i, i < js.length → (js.getD i pj0).st = 0 → valJ js i = 0
theorem POK.okl {p : PS} (h : POK p) : OkL p.js := ⟨h.n.ln, fun j hj => (h.n.js j hj).st⟩
theorem OkL.set {js : List PJ} (h : OkL js) (n : Nat) {x : PJ} (hx : x.st ≤ 6) : OkL (js.set n x) := by
  refine ⟨by simpa using h.ln, ?_⟩
  intro j hj
  rcases List.mem_or_eq_of_mem_set hj with q | q
  · exact h.st j q
  · rw [q]; exact hx
theorem pre_next {js js' : List PJ} (hP : PreD js) (hA : CodeA js) (ho : OkL js) (ho' : OkL js') (hl : js.length ≤ js'.length) (hc : ∀ i, i < js.length → (js'.getD i pj0).code = (js.getD i pj0).code) (h3 : ∀ i, i < js.length → 3 ≤ (js.getD i pj0).st → (js'.getD i pj0).st = (js.getD i pj0).st)
    (h1 : ∀ i, i < js.length → 1 ≤ (js'.getD i pj0).st → (js'.getD i pj0).st ≤ 4 → 1 ≤ (js.getD i pj0).st ∧ (js.getD i pj0).st ≤ 4) (h6 : ∀ i, i < js.length → (js'.getD i pj0).st = 6 → (js.getD i pj0).st = 6 ∨ valJ js i = 2) (h0 : ∀ i, js.length ≤ i → i < js'.length → (js'.getD i pj0).st = 0) : PreD js' := by
  intro i hi
  by_cases hb : i < js.length
  · obtain ⟨a, b⟩ := hP i hb
    constructor
    · intro q1 q2
      obtain ⟨r1, r2⟩ := h1 i hb q1 q2
      have v := a r1 r2
      rw [val_mo hA ho ho' hl hc h3 hb (by omega), v]
    · intro q
      have v : valJ js i = 2 := by
        rcases h6 i hb q with r | r
        · exact b r
        · exact r
      rw [val_mo hA ho ho' hl hc h3 hb (by omega), v]
  · have := h0 i (by omega) hi
    exact ⟨fun q => by omega, fun q => by omega⟩
theorem held_val {js : List PJ} {i v : Nat} (h : heldB js i v = true) : (js.getD i pj0).st = 0 ∧ valJ js i = v := by
  unfold heldB at h
  simp only [Bool.and_eq_true, decide_eq_true_eq] at h
  exact h
theorem held_not {js : List PJ} {i v : Nat} (h : heldB js i v = false) (h0 : (js.getD i pj0).st = 0) : valJ js i ≠ v := by
  unfold heldB at h
  intro q
  rw [decide_eq_true h0, decide_eq_true q] at h
  simp at h
theorem giveN_pre (now : Int) {js : List PJ} (hP : PreD js) (hA : CodeA js) (ho : OkL js) : ∀ n, n ≤ js.length → PreD (giveN now js n).1 ∧ CodeA (giveN now js n).1 ∧ OkL (giveN now js n).1 := by
  intro n
  induction n with
  | zero => intro _; exact ⟨hP, hA, ho⟩
  | succ n ih =>
    intro hn
    obtain ⟨a, b, c⟩ := ih (by omega)
    have hl := giveN_len now js n
    unfold giveN
    split
    · rename_i hh
      obtain ⟨v0, v2⟩ := held_val hh
      have hi : n < (giveN now js n).1.length := by omega
      have c' : OkL ((giveN now js n).1.set n ((((giveN now js n).1.getD n pj0).toSt 6).toEn now)) := c.set n (by show 6 ≤ 6; omega)
      have hcode : ∀ i, i < (giveN now js n).1.length → (((giveN now js n).1.set n ((((giveN now js n).1.getD n pj0).toSt 6).toEn now)).getD i pj0).code = ((giveN now js n).1.getD i pj0).code := by
        intro i _
        rw [getD_set hi]
        split
        · rename_i e; rw [e]; rfl
        · rfl
      refine ⟨pre_next a b c c' (by simp) hcode ?_ ?_ ?_ ?_, b.same (by simp) hcode, c'⟩
      · intro i _ q
        rw [getD_set hi]
        split
        · rename_i e; rw [e] at q; omega
        · rfl
      · intro i _
        rw [getD_set hi]
        split
        · intro q1 q2
          have : 6 ≤ 4 := q2
          omega
        · intro q1 q2; exact ⟨q1, q2⟩
      · intro i _
        rw [getD_set hi]
        split
        · rename_i e; intro _; right; rw [e]; exact v2
        · intro q; exact Or.inl q
      · intro i q1 q2
        simp at q2
        omega
    · exact ⟨a, b, c⟩
theorem giveF_pre (now : Int) : ∀ (k : Nat) (js : List PJ), PreD js → CodeA js → OkL js → PreD (giveF now k js) := by
  intro k
  induction k with
  | zero => intro js h _ _; exact h
  | succ k ih =>
    intro js hP hA ho
    obtain ⟨a, b, c⟩ := giveN_pre now hP hA ho js.length (Nat.le_refl _)
    unfold giveF
    split
    · exact ih _ a b c
    · exact a
/-- Queued is held no more, no value is another. -/
theorem queN_dec {p : PS} (hA : CodeA p.js) (ho : OkL p.js) : ∀ n, n ≤ p.js.length → OkL (queN p n).1 ∧ (∀ i, i < p.js.length → ((queN p n).1.getD i pj0).code = (p.js.getD i pj0).code) ∧
    (∀ i, i < p.js.length → ((queN p n).1.getD i pj0).st = (p.js.getD i pj0).st ∨ ((p.js.getD i pj0).st = 0 ∧ ((queN p n).1.getD i pj0).st = 1 ∧ valJ p.js i = 1)) ∧ (∀ i, i < n → ((queN p n).1.getD i pj0).st = 0 → valJ p.js i ≠ 1) ∧ (∀ i, n ≤ i → (queN p n).1.getD i pj0 = p.js.getD i pj0) := by
  intro n
  induction n with
  | zero => intro _; exact ⟨ho, fun i _ => rfl, fun i _ => Or.inl rfl, fun i hi => by omega, fun i _ => rfl⟩
  | succ n ih =>
    intro hn
    obtain ⟨a, b, c, d, e⟩ := ih (by omega)
    have hl := (queN_len p n).1
    have hi : n < (queN p n).1.length := by omega
    have hv : ∀ i, i < p.js.length → valJ (queN p n).1 i = valJ p.js i := by
      intro i hi
      refine val_low hA ho a hl b ?_ hi
      intro i hi
      rcases c i hi with q | ⟨q1, q2, _⟩
      · exact Or.inl q
      · right; omega
    unfold queN
    split
    · rename_i hh
      obtain ⟨v0, v1⟩ := held_val hh
      rw [hv n (by omega)] at v1
      rw [e n (Nat.le_refl _)] at v0
      dsimp only
      refine ⟨a.set n (by show 1 ≤ 6; omega), ?_, ?_, ?_, ?_⟩
      · intro i hi2
        rw [getD_set hi]
        split
        · rename_i q; rw [q]; exact b n (by omega)
        · exact b i hi2
      · intro i hi2
        rw [getD_set hi]
        split
        · rename_i q; subst q; right; exact ⟨v0, rfl, v1⟩
        · exact c i hi2
      · intro i hi2
        rw [getD_set hi]
        split
        · intro q
          have : 1 = 0 := q
          omega
        · exact d i (by omega)
      · intro i hi2
        rw [getD_set hi, if_neg (by omega)]
        exact e i (by omega)
    · rename_i hh
      refine ⟨a, b, c, ?_, fun i hi2 => e i (by omega)⟩
      intro i hi2 q
      by_cases ei : i = n
      · subst ei
        rw [← hv i (by omega)]
        exact held_not (by simpa using hh) q
      · exact d i (by omega) q
theorem settle_dec {p : PS} (hp : POK p) (hf : Fitg p.nodes p.now p.js) (hA : CodeA p.js) (hP : PreD p.js) : DecJ (settleF p).js := by
  obtain ⟨sS, sW⟩ := settle_set hp hf
  have hC : CodeA (settleF p).js := hA.same sW.1 (fun i hi => (sW.2 i hi).cd)
  -- given up
  obtain ⟨a1, a2⟩ := giveF_fit p.nodes p.now (cntH p.js + 1) p.js hf
  have p1 := giveUpF_ok hp
  have g1 : PreD (giveUpF p).js := giveF_pre p.now _ _ hP hA hp.okl
  obtain ⟨g2, g3⟩ := giveUp_spec p
  have c1 : CodeA (giveUpF p).js := hA.same a2.1 (fun i hi => (a2.2 i hi).cd)
  have l1 : (giveUpF p).js.length = p.js.length := a2.1
  -- moved up
  obtain ⟨b1, b2, b3, b4⟩ := moveF_fit (sumS (giveUpF p).js + 1) (giveUpF p) rfl rfl rfl p1 (Nat.lt_succ_self _) a1
  have p2 := moveUpF_ok p1
  have l2 : (moveUpF (giveUpF p)).js.length = (giveUpF p).js.length := b2.1
  have st2 : ∀ i, i < (giveUpF p).js.length → ((moveUpF (giveUpF p)).js.getD i pj0).st = ((giveUpF p).js.getD i pj0).st := b3
  have cd2 : ∀ i, i < (giveUpF p).js.length → ((moveUpF (giveUpF p)).js.getD i pj0).code = ((giveUpF p).js.getD i pj0).code := fun i hi => (b2.2 i hi).cd
  have c2 : CodeA (moveUpF (giveUpF p)).js := c1.same l2 cd2
  have v2 : ∀ i, i < (giveUpF p).js.length → valJ (moveUpF (giveUpF p)).js i = valJ (giveUpF p).js i := fun i hi => val_low c1 p1.okl p2.okl l2 cd2 (fun i hi => Or.inl (st2 i hi)) hi
  -- queued up
  obtain ⟨d1, d2, d3, d4, _⟩ := queN_dec (p := moveUpF (giveUpF p)) c2 p2.okl _ (Nat.le_refl _)
  have p3 := queueUpF_ok p2
  have l3 : (queueUpF (moveUpF (giveUpF p))).js.length = (moveUpF (giveUpF p)).js.length := (queN_len _ _).1
  have c3 : CodeA (queueUpF (moveUpF (giveUpF p))).js := c2.same l3 d2
  have v3 : ∀ i, i < (moveUpF (giveUpF p)).js.length → valJ (queueUpF (moveUpF (giveUpF p))).js i = valJ (moveUpF (giveUpF p)).js i := by
    intro i hi
    refine val_low c2 p2.okl p3.okl l3 d2 ?_ hi
    intro i hi
    rcases d3 i hi with q | ⟨q1, q2, _⟩
    · exact Or.inl q
    · right
      change ((moveUpF (giveUpF p)).js.getD i pj0).st < 3 ∧ ((queN (moveUpF (giveUpF p)) (moveUpF (giveUpF p)).js.length).1.getD i pj0).st < 3
      omega
  -- begun
  obtain ⟨e1, e2⟩ := begN_st (now := (queueUpF (moveUpF (giveUpF p))).now) p3.q.lt p3.q.q1 _ (Nat.le_refl _)
  have l4 : (settleF p).js.length = (queueUpF (moveUpF (giveUpF p))).js.length := e1
  have st4 : ∀ i, i < (queueUpF (moveUpF (giveUpF p))).js.length → ((settleF p).js.getD i pj0).st = ((queueUpF (moveUpF (giveUpF p))).js.getD i pj0).st ∨ (((queueUpF (moveUpF (giveUpF p))).js.getD i pj0).st = 1 ∧ ((settleF p).js.getD i pj0).st = 2) := by
    intro i hi
    rcases (e2 i hi).1 with q | ⟨q1, q2, q3⟩
    · left
      exact congrArg PJ.st q
    · right
      exact ⟨q1, congrArg PJ.st q3⟩
  have cd4 : ∀ i, i < (queueUpF (moveUpF (giveUpF p))).js.length → ((settleF p).js.getD i pj0).code = ((queueUpF (moveUpF (giveUpF p))).js.getD i pj0).code := by
    intro i hi
    rcases (e2 i hi).1 with q | ⟨q1, q2, q3⟩
    · exact congrArg PJ.code q
    · rw [show (settleF p).js.getD i pj0 = _ from q3]; rfl
  have v4 : ∀ i, i < (queueUpF (moveUpF (giveUpF p))).js.length → valJ (settleF p).js i = valJ (queueUpF (moveUpF (giveUpF p))).js i := by
    intro i hi
    refine val_low c3 p3.okl sS.ok.okl l4 cd4 ?_ hi
    intro i hi
    rcases st4 i hi with q | q
    · exact Or.inl q
    · right; omega
  have key : ∀ i, i < p.js.length → ∃ g s, ((giveUpF p).js.getD i pj0).st = g ∧ ((settleF p).js.getD i pj0).st = s ∧ valJ (settleF p).js i = valJ (giveUpF p).js i ∧ (s = g ∨ (g = 0 ∧ (s = 1 ∨ s = 2) ∧ valJ (giveUpF p).js i = 1) ∨ (g = 1 ∧ s = 2)) ∧ (s = 0 → g = 0 ∧ valJ (giveUpF p).js i ≠ 1) := by
    intro i hi
    have h1 : i < (giveUpF p).js.length := by omega
    have h2 : i < (moveUpF (giveUpF p)).js.length := by omega
    have h3 : i < (queueUpF (moveUpF (giveUpF p))).js.length := by omega
    refine ⟨_, _, rfl, rfl, by rw [v4 i h3, v3 i h2, v2 i h1], ?_, ?_⟩
    · have q2 := st2 i h1
      have q3 := d3 i h2
      have q4 := st4 i h3
      rw [v2 i h1] at q3
      change ((queueUpF (moveUpF (giveUpF p))).js.getD i pj0).st = _ ∨ _ ∧ ((queueUpF (moveUpF (giveUpF p))).js.getD i pj0).st = 1 ∧ _ at q3
      omega
    · intro q
      have q2 := st2 i h1
      have q3 := d3 i h2
      have q4 := st4 i h3
      have q5 := d4 i h2
      rw [v2 i h1] at q3 q5
      change ((queueUpF (moveUpF (giveUpF p))).js.getD i pj0).st = _ ∨ _ ∧ ((queueUpF (moveUpF (giveUpF p))).js.getD i pj0).st = 1 ∧ _ at q3
      change ((queueUpF (moveUpF (giveUpF p))).js.getD i pj0).st = 0 → _ at q5
      exact ⟨by omega, q5 (by omega)⟩
  have hlen : (settleF p).js.length = p.js.length := sW.1
  refine ⟨hC, ?_, ?_⟩
  · intro i hi
    rw [hlen] at hi
    obtain ⟨g, s, hg, hs, hv, hgs, _⟩ := key i hi
    obtain ⟨r1, r2⟩ := g1 i (by omega)
    rw [hg] at r1 r2
    rw [hs, hv]
    constructor
    · intro q1 q2
      rcases hgs with q | ⟨_, _, q⟩ | ⟨q, _⟩
      · exact r1 (by omega) (by omega)
      · exact q
      · exact r1 (by omega) (by omega)
    · intro q
      exact r2 (by omega)
  · intro i hi h0
    rw [hlen] at hi
    obtain ⟨g, s, hg, hs, hv, _, hz⟩ := key i hi
    rw [hs] at h0
    obtain ⟨z1, z2⟩ := hz h0
    have n2 := held_not (g3 i hi) (by rw [hg]; exact z1)
    have le : valJ (giveUpF p).js i ≤ 2 := (c1 i (by omega)).le _ (by rw [stI_len]; omega) p1.okl.are
    rw [hv]
    omega
theorem pass_dec {p : PS} (h : Stl p) (hn : p.now < 5000) (hD : DecJ p.js) : DecJ (passF p).js := by
  obtain ⟨a, b⟩ := pass_fit h
  have hp := passN_ok (later_ok h.ok hn) _ (Nat.le_refl _)
  have hl := passN_len (p.now + 1) p.js p.js.length
  have hg := passN_st (p.now + 1) p.js p.js.length (Nat.le_refl _)
  have hc : ∀ i, i < p.js.length → ((passN (p.now + 1) p.js p.js.length).getD i pj0).code = (p.js.getD i pj0).code := fun i hi => (b.2 i hi).cd
  have hst : ∀ i, i < p.js.length → ((passN (p.now + 1) p.js p.js.length).getD i pj0).st = (p.js.getD i pj0).st ∨ ((p.js.getD i pj0).st = 2 ∧ ((passN (p.now + 1) p.js p.js.length).getD i pj0).st = 4) := by
    intro i hi
    rw [hg i hi]
    split
    · rename_i q; right; exact ⟨q.2.1, rfl⟩
    · left; rfl
  have hP : PreD (passN (p.now + 1) p.js p.js.length) := by
    refine pre_next hD.p hD.c h.ok.okl (POK.okl hp) (by omega) hc ?_ ?_ ?_ ?_
    · intro i hi q; have := hst i hi; omega
    · intro i hi q1 q2; have := hst i hi; omega
    · intro i hi q; have := hst i hi; left; omega
    · intro i h1 h2; omega
  exact settle_dec (p := { p with now := p.now + 1, js := passN (p.now + 1) p.js p.js.length }) hp a (hD.c.same hl hc) hP
theorem tick_dec {p : PS} (h : Stl p) (hD : DecJ p.js) : ∀ n : Nat, p.now + (n : Int) ≤ 5000 → DecJ (tickN p n).js := by
  intro n
  induction n with
  | zero => intro _; exact hD
  | succ n ih =>
    intro hn
    obtain ⟨a, b, c, d, e⟩ := tick_set h n (by omega)
    exact pass_dec a (by omega) (ih (by omega))
theorem end_dec {p r : PS} (h : Stl p) (hD : DecJ p.js) {id : Nat} (hid : id < p.js.length) {x : PJ} (hx : x.code = (p.js.getD id pj0).code) (hj : r.js = p.js.set id x) (hp : POK r) (hf : Fitg r.nodes r.now r.js) (hs : ((p.js.getD id pj0).st = 2 ∧ 3 ≤ x.st ∧ x.st ≤ 4) ∨ ((p.js.getD id pj0).st ≤ 2 ∧ x.st = 5)) : DecJ (settleF r).js := by
  have hl : r.js.length = p.js.length := by rw [hj]; simp
  have hg : ∀ i, r.js.getD i pj0 = if i = id then x else p.js.getD i pj0 := by intro i; rw [hj, getD_set hid]
  have hc : ∀ i, i < p.js.length → (r.js.getD i pj0).code = (p.js.getD i pj0).code := by
    intro i hi
    rw [hg]
    split
    · rename_i e; rw [e]; exact hx
    · rfl
  refine settle_dec hp hf (hD.c.same hl hc) ?_
  refine pre_next hD.p hD.c h.ok.okl hp.okl (by omega) hc ?_ ?_ ?_ ?_
  · intro i hi q
    rw [hg]
    split
    · rename_i e; rw [e] at q; omega
    · rfl
  · intro i hi
    rw [hg]
    split
    · rename_i e; intro q1 q2; rw [e]; omega
    · intro q1 q2; exact ⟨q1, q2⟩
  · intro i hi
    rw [hg]
    split
    · rename_i e; intro q; omega
    · intro q; exact Or.inl q
  · intro i h1 h2; omega
theorem finish_dec {p : PS} (h : Stl p) (hD : DecJ p.js) {id : Nat} (ok : Bool) (hid : id < p.js.length) (hs : (p.js.getD id pj0).st = 2) : DecJ (finishF p (id : Int) ok).1.js := by
  have hf := end_fit h (st := if ok then 3 else 4) hid (Or.inl ⟨by cases ok <;> simp, by cases ok <;> simp, hs⟩)
  have hp := endP_ok h.ok id (if ok then 3 else 4) hid (by omega) (by cases ok <;> simp) (by cases ok <;> simp)
  have e : finishF p (id : Int) ok = (settleF (endP p id (if ok then 3 else 4)), 0) := by
    unfold finishF hasP
    rw [if_neg (by simp; omega), Int.toNat_natCast, if_neg (by omega)]
  rw [e]
  refine end_dec h hD hid (x := ((p.js.getD id pj0).toSt (if ok then 3 else 4)).toEn p.now) rfl rfl hp hf (Or.inl ⟨hs, ?_, ?_⟩)
  · show 3 ≤ (if ok then 3 else 4); cases ok <;> simp
  · show (if ok then 3 else 4) ≤ 4; cases ok <;> simp
theorem cancel_dec {p : PS} (h : Stl p) (hD : DecJ p.js) {id : Nat} (hid : id < p.js.length) (hs : (p.js.getD id pj0).st ≤ 2) : DecJ (cancelF p (id : Int)).1.js := by
  by_cases e : (p.js.getD id pj0).st = 1
  · have e2 : cancelF p (id : Int) = (settleF (endP (leaveP p id) id 5), 0) := by
      unfold cancelF hasP
      rw [if_neg (by simp; omega), Int.toNat_natCast, if_neg (by omega), if_pos e]
    rw [e2]
    refine end_dec h hD hid (x := (((p.js.getD id pj0).toSa (-1)).toSt 5).toEn p.now) rfl ?_ (leaveP_ok h.ok id hid e) (leave_fit h hid e) (Or.inr ⟨hs, rfl⟩)
    show (p.js.set id ((p.js.getD id pj0).toSa (-1))).set id ((((p.js.set id ((p.js.getD id pj0).toSa (-1))).getD id pj0).toSt 5).toEn p.now) = _
    rw [getD_set hid, if_pos rfl, List.set_set]
  · have e2 : cancelF p (id : Int) = (settleF (endP p id 5), 0) := by
      unfold cancelF hasP
      rw [if_neg (by simp; omega), Int.toNat_natCast, if_neg (by omega), if_neg e]
    rw [e2]
    exact end_dec h hD hid (x := ((p.js.getD id pj0).toSt 5).toEn p.now) rfl rfl (endP_ok h.ok id 5 hid e (by omega) (by omega)) (end_fit h hid (Or.inr ⟨rfl, hs, e⟩)) (Or.inr ⟨hs, rfl⟩)
end Go.Proofs.YtanknpmojblmcabGreatDoor

/-
  A world whose jobs are decided, move by move; its end.
-/
set_option linter.unusedSimpArgs false
set_option linter.unusedVariables false
namespace Go.Proofs.YtanknpmojblmcabGreatDoor

theorem sub_dec {p : PS} {ms ns : List MB} {bn bj : Nat} {T : List UInt8} {hs : List HV} (h : WI p ms bn bj) (B : BatOf ms bn bj p.nodes T ns hs) (hn8 : p.nodes ≤ 8) (hD : DecJ p.js) (hc : bj + cntM ns ≤ 24) : DecJ (subF p (batF ms bn bj p.nodes T).text).1.js := by
  have hl := h.len
  have hw := B.wide
  have hm := B.miss h.bk.bat
  have hr := B.ring h.bk.bat
  have ho := B.own
  have hcn : cntG (ns.map grpM) = cntM ns := cntG_map ns
  have hc24 : cntM ms ≤ 24 := by rw [h.bk.cnt, ← hl]; exact h.st.ok.n.ln
  have hsub : subF p (batF ms bn bj p.nodes T).text = if 24 < bj + cntM ns then (p, (8, 0, 0, 0), []) else (settleF (takeF p (ns.map grpM) hs), (0, 0, bj, cntM ns), []) := by
    unfold subF
    rw [B.rd]
    dsimp only
    rw [if_neg (by simp), hw]
    dsimp only
    rw [hl, ho, h.gs, hm]
    dsimp only
    rw [hr, if_neg (by simp), hcn]
  obtain ⟨L, t1, t2, t3⟩ := B.takes h.bk.good h.gs hc24 hn8 ns.length (Nat.le_refl _)
  rw [List.take_length] at t2
  have hLl : L.length = cntM ns := by
    have := congrArg List.length t2
    rw [List.length_map, jobsM_len] at this
    exact this
  have ht : takeF p (ns.map grpM) hs = { p with js := p.js ++ L, gs := p.gs ++ ns.map grpM } := by
    unfold takeF
    rw [B.hl, t1]
  obtain ⟨a, b⟩ := take_pok h.st t3 (by omega) (G := p.gs ++ ns.map grpM)
  have hA := B.codes h.bk h.gs hl hc24 hD.c ns.length (Nat.le_refl _)
  rw [t1] at hA
  rw [hsub, if_neg (by omega), ht]
  refine settle_dec (p := { p with js := p.js ++ L, gs := p.gs ++ ns.map grpM }) a b hA ?_
  have hg : ∀ i, i < p.js.length → (p.js ++ L).getD i pj0 = p.js.getD i pj0 := by intro i hi; rw [getD_app, if_pos hi]
  refine pre_next hD.p hD.c h.st.ok.okl (POK.okl a) (by simp) ?_ ?_ ?_ ?_ ?_
  · intro i hi; show ((p.js ++ L).getD i pj0).code = _; rw [hg i hi]
  · intro i hi q; show ((p.js ++ L).getD i pj0).st = _; rw [hg i hi]
  · intro i hi; show 1 ≤ ((p.js ++ L).getD i pj0).st → ((p.js ++ L).getD i pj0).st ≤ 4 → _; rw [hg i hi]; intro q1 q2; exact ⟨q1, q2⟩
  · intro i hi; show ((p.js ++ L).getD i pj0).st = 6 → _; rw [hg i hi]; intro q; exact Or.inl q
  · intro i h1 h2
    show ((p.js ++ L).getD i pj0).st = 0
    have h2 : i < (p.js ++ L).length := h2
    rw [List.length_append] at h2
    rw [getD_app, if_neg (by omega)]
    exact (t3 _ (getD_in (by omega))).1
theorem step_dec {x : WS} (h : WOK x) (hD : DecJ x.p.js) (m : Mv) : DecJ (stepW x m).p.js := by
  unfold stepW
  split
  · obtain ⟨ns, hs, B⟩ := batF_ok (bn := x.bn) (bj := x.p.js.length) (T := m.s.data.toList) h.wi.bk.good h.n1 h.n8
    rw [B.jb]
    split
    · exact hD
    · rename_i hc
      exact sub_dec h.wi B h.n8 hD (by omega)
  split
  · split
    · exact hD
    · rename_i hc
      have hn := h.wi.st.f.n0
      exact tick_dec h.wi.st hD _ (by omega)
  split
  · cases hA : amgF false x.p.js m.a with
    | none => exact hD
    | some id =>
      unfold amgF at hA
      split at hA
      · simp at hA
      obtain ⟨a1, a2, a3⟩ := amgN_some _ hA
      have hst : (x.p.js.getD id pj0).st = 2 := by unfold amgB at a2; simpa using a2
      exact finish_dec h.wi.st hD _ a1 hst
  split
  · cases hA : amgF true x.p.js m.a with
    | none => exact hD
    | some id =>
      unfold amgF at hA
      split at hA
      · simp at hA
      obtain ⟨a1, a2, a3⟩ := amgN_some _ hA
      have hst : (x.p.js.getD id pj0).st ≤ 2 := by unfold amgB at a2; simp at a2; simp; omega
      exact cancel_dec h.wi.st hD a1 hst
  · exact hD
theorem dec_nil : DecJ [] := ⟨fun i hi => by simp at hi, fun i hi => by simp at hi, fun i hi => by simp at hi⟩

theorem oth_zero {js : List PJ} {id : Nat} {m : Int} : ∀ n, (∀ k, k < n → wantsAt (js.getD k pj0) m = true → k = id) → othN js id m n = 0 := by
  intro n
  induction n with
  | zero => intro _; rfl
  | succ n ih =>
    intro h
    unfold othN
    rw [ih (fun k hk => h k (by omega)), if_neg]
    rintro ⟨a, b⟩
    exact a (h n (by omega) b)
/-- Where something is not at an end something runs. -/
theorem live_q {p : PS} (h : Stl p) (hr : ∀ k, k < p.js.length → (p.js.getD k pj0).st ≠ 2) : ∀ (n i : Nat), i < p.js.length → (p.js.getD i pj0).st = 1 → (p.js.getD i pj0).sa ≤ (n : Int) → False := by
  intro n
  induction n with
  | zero =>
    intro i hi h1 h2
    have := h.l i hi h1
    have := h.f.n0
    omega
  | succ n ih =>
    intro i hi h1 h2
    by_cases hx : ∃ k, k < p.js.length ∧ (p.js.getD k pj0).st = 1 ∧ (p.js.getD k pj0).sa ≤ (n : Int)
    · obtain ⟨k, a, b, c⟩ := hx
      exact ih k a b c
    · have hl := h.l i hi h1
      have hg := h.g i hi h1 ((p.js.getD i pj0).sa - 1) (by omega) (by omega)
      have hroom := h.room hi h1
      rw [fits_iff] at hroom
      have : fitsF p.js p.nodes i ((p.js.getD i pj0).sa - 1) = true := by
        rw [fits_iff]
        intro m m1 m2
        by_cases e : m = (p.js.getD i pj0).sa - 1
        · unfold loadF
          rw [oth_want, oth_zero]
          · have := (h.f.t i hi).nd
            omega
          · intro k hk hw
            exfalso
            unfold wantsAt hasS at hw
            have h3 := hr k hk
            simp only [Bool.and_eq_true, Bool.or_eq_true, beq_iff_eq, decide_eq_true_eq] at hw
            have hk1 : (p.js.getD k pj0).st = 1 := by omega
            exact hx ⟨k, hk, hk1, by omega⟩
        · exact hroom m (by omega) (by omega)
      rw [this] at hg
      simp at hg
theorem live {p : PS} (h : Stl p) (hD : DecJ p.js) : ∀ i, i < p.js.length → (p.js.getD i pj0).st < 3 → ∃ k, k < p.js.length ∧ (p.js.getD k pj0).st = 2 := by
  intro i
  induction i using Nat.strongRecOn with
  | ind i ih =>
    intro hi hs
    by_cases hr : ∃ k, k < p.js.length ∧ (p.js.getD k pj0).st = 2
    · exact hr
    · exfalso
      have hr2 : ∀ k, k < p.js.length → (p.js.getD k pj0).st ≠ 2 := fun k hk e => hr ⟨k, hk, e⟩
      have : (p.js.getD i pj0).st = 0 ∨ (p.js.getD i pj0).st = 1 := by have := hr2 i hi; omega
      rcases this with e | e
      · have hv := hD.h i hi e
        obtain ⟨j, hj, hlt⟩ := (hD.c i hi).wt (stI p.js) (by rw [stI_len]; omega) h.ok.okl.are hv
        rw [stI_get p.js (by omega)] at hlt
        obtain ⟨k, hk, hk2⟩ := ih j hj (by omega) (by omega)
        exact hr ⟨k, hk, hk2⟩
      · exact live_q h hr2 (p.js.getD i pj0).sa.toNat i hi e (by omega)

/-- The time that a job may still run. -/
def remJ (now : Int) (j : PJ) : Nat := if j.st ≤ 1 then j.tm else if j.st = 2 then (j.sa + (j.tm : Int) - now).toNat else 0
def muN (now : Int) (js : List PJ) : Nat → Nat
  | 0 => 0
  | n + 1 => muN now js n + remJ now (js.getD n pj0)
theorem mu_le {a b : Int} {js js' : List PJ} : ∀ n, (∀ i, i < n → remJ b (js'.getD i pj0) ≤ remJ a (js.getD i pj0)) → muN b js' n ≤ muN a js n := by
  intro n
  induction n with
  | zero => intro _; exact Nat.le_refl _
  | succ n ih =>
    intro h
    have := ih (fun i hi => h i (by omega))
    have := h n (by omega)
    unfold muN
    omega
theorem mu_lt {a b : Int} {js js' : List PJ} : ∀ n, (∀ i, i < n → remJ b (js'.getD i pj0) ≤ remJ a (js.getD i pj0)) → ∀ k, k < n → remJ b (js'.getD k pj0) < remJ a (js.getD k pj0) → muN b js' n < muN a js n := by
  intro n
  induction n with
  | zero => intro _ k hk; omega
  | succ n ih =>
    intro h k hk hl
    unfold muN
    by_cases e : k = n
    · subst e
      have := mu_le (a := a) (b := b) k (fun i hi => h i (by omega))
      omega
    · have := ih (fun i hi => h i (by omega)) k (by omega) hl
      have := h n (by omega)
      omega
theorem mu_pos {a : Int} {js : List PJ} : ∀ n, 0 < muN a js n → ∃ i, i < n ∧ 0 < remJ a (js.getD i pj0) := by
  intro n
  induction n with
  | zero => intro h; simp [muN] at h
  | succ n ih =>
    intro h
    unfold muN at h
    by_cases e : 0 < remJ a (js.getD n pj0)
    · exact ⟨n, by omega, e⟩
    · obtain ⟨i, hi, h2⟩ := ih (by omega)
      exact ⟨i, by omega, h2⟩
theorem mu_zero {a : Int} {js : List PJ} : ∀ n, muN a js n = 0 → ∀ i, i < n → remJ a (js.getD i pj0) = 0 := by
  intro n
  induction n with
  | zero => intro _ i hi; omega
  | succ n ih =>
    intro h i hi
    unfold muN at h
    by_cases e : i = n
    · subst e; omega
    · exact ih (by omega) i (by omega)
/-- What Ends adds up. -/
def sumE (js : List PJ) : Nat → Nat
  | 0 => 0
  | n + 1 => sumE js n + (if (js.getD n pj0).st < 3 then (js.getD n pj0).tm else 0)
theorem rem_tm {nodes : Nat} {now : Int} {j : PJ} (h : Tmly nodes now j) : remJ now j ≤ if j.st < 3 then j.tm else 0 := by
  unfold remJ
  split
  · rw [if_pos (by omega)]; exact Nat.le_refl _
  split
  · rename_i e
    have := (h.s2 e)
    rw [if_pos (by omega)]
    omega
  · omega
theorem mu_sum {p : PS} (h : Stl p) : ∀ n, n ≤ p.js.length → muN p.now p.js n ≤ sumE p.js n := by
  intro n
  induction n with
  | zero => intro _; exact Nat.le_refl _
  | succ n ih =>
    intro hn
    have := ih (by omega)
    have := rem_tm (h.f.t n (by omega))
    unfold muN sumE
    omega
theorem rem_zero {nodes : Nat} {now : Int} {j : PJ} (h : Tmly nodes now j) (hz : remJ now j = 0) : 3 ≤ j.st := by
  unfold remJ at hz
  have := h.tm
  split at hz
  · omega
  split at hz
  · rename_i e
    have := h.s2 e
    unfold overJ at this
    omega
  · omega
theorem rem_step {nodes : Nat} {now now' : Int} {j k : PJ} (h : Tmly nodes now j) (h' : Tmly nodes now' k) (hk : KeptJ now' j k) (ht : k.tm = j.tm) (hn : now ≤ now') : remJ now' k ≤ remJ now j ∧ (j.st = 2 → now < now' → remJ now' k < remJ now j) := by
  have g := rem_tm h'
  by_cases e3 : 3 ≤ j.st
  · have := hk.e e3
    have z : remJ now' k = 0 := by unfold remJ; rw [if_neg (by omega), if_neg (by omega)]
    exact ⟨by omega, fun q => by omega⟩
  · by_cases e2 : j.st = 2
    · obtain ⟨q1, q2, q3⟩ := hk.r e2
      have s := h.s2 e2
      unfold overJ at s
      have z : remJ now j = (j.sa + (j.tm : Int) - now).toNat := by unfold remJ; rw [if_neg (by omega), if_pos e2]
      by_cases k2 : k.st = 2
      · have z' : remJ now' k = (j.sa + (j.tm : Int) - now').toNat := by unfold remJ; rw [if_neg (by omega), if_pos k2, q1, ht]
        exact ⟨by omega, fun _ _ => by omega⟩
      · have z' : remJ now' k = 0 := by unfold remJ; rw [if_neg (by omega), if_neg k2]
        exact ⟨by omega, fun _ _ => by omega⟩
    · have z : remJ now j = j.tm := by unfold remJ; rw [if_pos (by omega)]
      refine ⟨?_, fun q => absurd q e2⟩
      rw [z, ← ht]
      split at g <;> omega
theorem nt_of {x y : WS} (h : WOK x) (h' : WOK y) (hm : y.ms = x.ms) : y.p.js.length = x.p.js.length ∧ ∀ i, i < x.p.js.length → (y.p.js.getD i pj0).tm = (x.p.js.getD i pj0).tm := by
  have e : y.p.js.map ntJ = x.p.js.map ntJ := by rw [h'.wi.jn, h.wi.jn, hm]
  have hl : y.p.js.length = x.p.js.length := by simpa using congrArg List.length e
  refine ⟨hl, fun i hi => ?_⟩
  have := congrArg (fun l => l[i]?) e
  simp only [List.getElem?_map, List.getElem?_eq_getElem hi, List.getElem?_eq_getElem (show i < y.p.js.length by omega), Option.map_some] at this
  have := congrArg Prod.snd (Option.some.inj this)
  rw [getD_get hi, getD_get (by omega)]
  exact this
/-- One unit of time. -/
def tik1 : Mv := ⟨4, 0, 0, ⟨#[]⟩⟩
theorem step_ms {x : WS} {m : Mv} (h : m.kind ≠ 1) : (stepW x m).ms = x.ms := by
  unfold stepW
  rw [if_neg h]
  split
  · split <;> rfl
  split
  · cases amgF false x.p.js m.a <;> rfl
  split
  · cases amgF true x.p.js m.a <;> rfl
  · rfl
theorem pik0 : pikD 0 % 9 = 0 := by unfold pikD; decide
theorem tik_now {x : WS} (h : WOK x) (hn : x.p.now + 1 ≤ 3000) : stepW x tik1 = ⟨tickN x.p 1, x.ms, x.bn⟩ ∧ (stepW x tik1).p.now = x.p.now + 1 := by
  have e : stepW x tik1 = ⟨tickN x.p 1, x.ms, x.bn⟩ := by
    unfold stepW tik1
    rw [if_neg (by decide), if_pos rfl]
    dsimp only
    rw [pik0, if_neg (by omega)]
  refine ⟨e, ?_⟩
  rw [e]
  rfl
theorem fin_now {x : WS} {m : Mv} (h : WOK x) (hk : m.kind = 2 ∨ m.kind = 3) : (stepW x m).p.now = x.p.now := by
  unfold stepW
  rw [if_neg (by omega), if_neg (by omega)]
  split
  · cases hA : amgF false x.p.js m.a with
    | none => rfl
    | some id =>
      unfold amgF at hA
      split at hA
      · simp at hA
      obtain ⟨a1, a2, a3⟩ := amgN_some _ hA
      have hst : (x.p.js.getD id pj0).st = 2 := by unfold amgB at a2; simpa using a2
      obtain ⟨q, f1, f2, f3, _⟩ := finish_set h.wi.st (decide (pikD m.b % 2 = 1)) a1 hst
      dsimp only
      rw [f1]
      exact f3
  split
  · cases hA : amgF true x.p.js m.a with
    | none => rfl
    | some id =>
      unfold amgF at hA
      split at hA
      · simp at hA
      obtain ⟨a1, a2, a3⟩ := amgN_some _ hA
      have hst : (x.p.js.getD id pj0).st ≤ 2 := by unfold amgB at a2; simp at a2; simp; omega
      obtain ⟨q, f1, f2, f3, _⟩ := cancel_set h.wi.st a1 hst
      dsimp only
      rw [f1]
      exact f3
  · rfl
def muW (x : WS) : Nat := muN x.p.now x.p.js x.p.js.length
theorem tik_mu {x : WS} (h : WOK x) (hD : DecJ x.p.js) (hn : x.p.now + 1 ≤ 3000) : muW (stepW x tik1) ≤ muW x - 1 := by
  obtain ⟨a, b, c, d⟩ := step_ok h tik1
  obtain ⟨_, e⟩ := tik_now h hn
  obtain ⟨l, t⟩ := nt_of h a (step_ms (by show (4 : Int) ≠ 1; decide))
  have rs : ∀ i, i < x.p.js.length → remJ (stepW x tik1).p.now ((stepW x tik1).p.js.getD i pj0) ≤ remJ x.p.now (x.p.js.getD i pj0) ∧ ((x.p.js.getD i pj0).st = 2 → remJ (stepW x tik1).p.now ((stepW x tik1).p.js.getD i pj0) < remJ x.p.now (x.p.js.getD i pj0)) := by
    intro i hi
    have t1 := h.wi.st.f.t i hi
    have t2 := a.wi.st.f.t i (by omega)
    rw [b] at t2
    obtain ⟨q1, q2⟩ := rem_step t1 t2 (d i hi) (t i hi) (by omega)
    exact ⟨q1, fun q => q2 q (by omega)⟩
  unfold muW
  rw [l]
  by_cases hp : 0 < muN x.p.now x.p.js x.p.js.length
  · obtain ⟨i, hi, hr⟩ := mu_pos _ hp
    have hs : (x.p.js.getD i pj0).st < 3 := by
      unfold remJ at hr
      split at hr
      · omega
      split at hr
      · omega
      · omega
    obtain ⟨k, hk, hk2⟩ := live h.wi.st hD i hi hs
    have := mu_lt _ (fun i hi => (rs i hi).1) k hk ((rs k hk).2 hk2)
    omega
  · have := mu_le _ (fun i hi => (rs i hi).1)
    omega
theorem fin_mu {x : WS} {m : Mv} (h : WOK x) (hk : m.kind = 2 ∨ m.kind = 3) : muW (stepW x m) ≤ muW x := by
  obtain ⟨a, b, c, d⟩ := step_ok h m
  have e := fin_now h hk
  obtain ⟨l, t⟩ := nt_of h a (step_ms (by omega))
  unfold muW
  rw [l]
  refine mu_le _ ?_
  intro i hi
  have t1 := h.wi.st.f.t i hi
  have t2 := a.wi.st.f.t i (by omega)
  rw [b] at t2
  exact (rem_step t1 t2 (d i hi) (t i hi) (by omega)).1
/-- Time goes by, with later ends between. -/
def pastW (x : WS) (L : List Mv) : Nat → WS
  | 0 => x
  | n + 1 => if n < L.length ∧ ((L.getD n tik1).kind = 2 ∨ (L.getD n tik1).kind = 3) then stepW (stepW (pastW x L n) tik1) (L.getD n tik1) else stepW (pastW x L n) tik1
theorem past_ok {x : WS} (h : WOK x) (hD : DecJ x.p.js) (L : List Mv) : ∀ n : Nat, x.p.now + (n : Int) ≤ 3000 → WOK (pastW x L n) ∧ DecJ (pastW x L n).p.js ∧ (pastW x L n).p.now = x.p.now + (n : Int) ∧ muW (pastW x L n) ≤ muW x - n ∧ (pastW x L n).p.nodes = x.p.nodes ∧ (pastW x L n).p.js.length = x.p.js.length := by
  intro n
  induction n with
  | zero => intro _; exact ⟨h, hD, by simp [pastW], Nat.le_refl _, rfl, rfl⟩
  | succ n ih =>
    intro hn
    obtain ⟨a, b, c, d, e, f⟩ := ih (by omega)
    have a1 := (step_ok a tik1).1
    have a2 := (step_ok a tik1).2.1
    have b1 := step_dec a b tik1
    have c1 := (tik_now a (by omega)).2
    have d1 := tik_mu a b (by omega)
    have f1 := (nt_of a a1 (step_ms (by show (4 : Int) ≠ 1; decide))).1
    unfold pastW
    split
    · rename_i hc
      have a3 := (step_ok a1 (L.getD n tik1)).1
      have f3 := (nt_of a1 a3 (step_ms (by omega))).1
      refine ⟨a3, step_dec a1 b1 _, ?_, ?_, ?_, by omega⟩
      · rw [fin_now a1 hc.2, c1, c]; omega
      · have := fin_mu a1 hc.2; omega
      · rw [(step_ok a1 (L.getD n tik1)).2.1, a2, e]
    · exact ⟨a1, b1, by rw [c1, c]; omega, by omega, by rw [a2, e], by omega⟩
theorem past_end {x : WS} (h : WOK x) (hD : DecJ x.p.js) (L : List Mv) (hn : x.p.now + (sumE x.p.js x.p.js.length : Int) ≤ 3000) : ∀ i, i < x.p.js.length → 3 ≤ ((pastW x L (sumE x.p.js x.p.js.length)).p.js.getD i pj0).st := by
  obtain ⟨a, b, c, d, e, f⟩ := past_ok h hD L (sumE x.p.js x.p.js.length) hn
  have hm : muW x ≤ sumE x.p.js x.p.js.length := mu_sum h.wi.st _ (Nat.le_refl _)
  intro i hi
  have hz := mu_zero _ (show muN (pastW x L (sumE x.p.js x.p.js.length)).p.now (pastW x L (sumE x.p.js x.p.js.length)).p.js (pastW x L (sumE x.p.js x.p.js.length)).p.js.length = 0 from by
    show muW (pastW x L (sumE x.p.js x.p.js.length)) = 0
    omega) i (by omega)
  exact rem_zero (a.wi.st.f.t i (by omega)) hz
theorem run_zero {js : List PJ} : ∀ n, (∀ i, i < n → 3 ≤ (js.getD i pj0).st) → runN js n = 0 := by
  intro n
  induction n with
  | zero => intro _; rfl
  | succ n ih =>
    intro h
    have := h n (by omega)
    unfold runN
    rw [ih (fun i hi => h i (by omega)), if_neg (by omega)]
end Go.Proofs.YtanknpmojblmcabGreatDoor

/-
  Firm, on lists: batches that may not be are refused, each with its error, and nothing is another.
-/
set_option linter.unusedSimpArgs false
set_option linter.unusedVariables false
namespace Go.Proofs.YtanknpmojblmcabGreatDoor
open Go.RowKit

/-- The name zz is none that a batch here has. -/
def NmW (ms : List MB) : Prop := ∀ m ∈ ms, m.job.name ≠ [122, 122]
theorem nameL_zz (k : Nat) : nameL k ≠ [122, 122] := by
  match k with
  | 0 => decide
  | 1 => decide
  | 2 => decide
  | 3 => decide
  | k + 4 => simp [nameL]
theorem step_nm {x : WS} (h : WOK x) (hn : NmW x.ms) (m : Mv) : NmW (stepW x m).ms := by
  unfold stepW
  split
  · split
    · exact hn
    · obtain ⟨ns, hs, B⟩ := batF_ok (ms := x.ms) (bn := x.bn) (bj := x.p.js.length) (nodes := x.p.nodes) (T := m.s.data.toList) h.wi.bk.good h.n1 h.n8
      dsimp only
      rw [B.mm]
      intro y hy
      rcases List.mem_append.1 hy with q | q
      · exact hn y q
      · obtain ⟨j, hj, rfl⟩ := List.getElem_of_mem q
        have e := B.nn j hj
        rw [show ns.getD j mb0 = ns[j] from by simp [hj]] at e
        rw [e]
        have h2 : j < (onL (kB m.s.data.toList) (nB m.s.data.toList)).length := by rw [B.ol]; exact hj
        rw [show (onL (kB m.s.data.toList) (nB m.s.data.toList)).getD j [] = (onL (kB m.s.data.toList) (nB m.s.data.toList))[j] from by simp [h2], onL_get]
        exact nameL_zz _
  · split
    · split <;> exact hn
    · split
      · split <;> exact hn
      · split
        · split <;> exact hn
        · exact hn

/-- A batch that is refused. -/
structure Rfd (p : PS) (T : List UInt8) (e at_ : Nat) (ring : List Nat) : Prop where
  sub : subF p T = (p, (e, at_, 0, 0), ring)
  rd : ReadOK T
  tk : ∀ own hs, own = grpF (readH T).1 p.js.length → hs = (readH T).1 → p.js.length + cntG own ≤ 24 → POK (takeF p own hs)

theorem rfd_read {p : PS} {T : List UInt8} {e at_ : Nat} (hp : POK p) (h : readH T = ([], (e, at_))) (he : e ≠ 0) : Rfd p T e at_ [] := by
  refine ⟨?_, ⟨by rw [h]; simp, by rw [h]; simp, by rw [h]; simp⟩, ?_⟩
  · unfold subF
    rw [h]
    dsimp only
    rw [if_pos he]
  · intro own hs ho hh _
    rw [h] at ho hh
    subst hh
    subst ho
    have : takeF p (grpF [] p.js.length) [] = p := by
      unfold takeF grpF grpN takeN
      simp
    rw [this]
    exact hp

def rfT : Nat → List UInt8
  | 0 => []
  | 1 => [35, 74]
  | 2 => [35, 74, 32, 113, 32, 110, 111, 100, 101, 115, 61, 49, 32, 116, 105, 109, 101, 61, 49, 32, 97, 102, 116, 101, 114, 61, 40, 111, 107, 58, 113]
  | 3 => [35, 74, 32, 113, 32, 110, 111, 100, 101, 115, 61, 49, 32, 116, 105, 109, 101, 61, 49, 51]
  | 4 => [35, 74, 32, 113, 32, 110, 111, 100, 101, 115, 61, 49, 32, 116, 105, 109, 101, 61, 49, 10, 35, 74, 32, 113, 32, 110, 111, 100, 101, 115, 61, 49, 32, 116, 105, 109, 101, 61, 49]
  | 5 => [35, 74, 32, 113, 32, 110, 111, 100, 101, 115, 61, 49, 32, 116, 105, 109, 101, 61, 49, 32, 97, 102, 116, 101, 114, 61, 111, 107, 58, 122, 122]
  | 6 => [35, 74, 32, 113, 32, 110, 111, 100, 101, 115, 61, 49, 32, 116, 105, 109, 101, 61, 49, 10, 35, 74, 32, 114, 32, 110, 111, 100, 101, 115, 61, 49, 32, 116, 105, 109, 101, 61, 49, 32, 97, 102, 116, 101, 114, 61, 115, 105, 110, 103, 108, 101, 38, 97, 110, 121, 58, 113, 91, 48, 93]
  | 7 => List.replicate 601 120
  | 9 => [35, 74, 32, 113, 32, 110, 111, 100, 101, 115, 61, 49, 32, 116, 105, 109, 101, 61, 49, 32, 97, 102, 116, 101, 114, 61, 110, 111, 116, 58, 113, 124, 115, 105, 110, 103, 108, 101]
  | _ => []
def rfE : Nat → Nat × Nat
  | 0 => (2, 0)
  | 1 => (2, 2)
  | 2 => (2, 31)
  | 3 => (3, 18)
  | 4 => (4, 23)
  | 5 => (6, 29)
  | 6 => (6, 57)
  | 7 => (1, 0)
  | 8 => (5, 11)
  | _ => (7, 0)
/-- A head that wants one node too many. -/
def rfN (n : Nat) : List UInt8 := [35, 74, 32, 113, 32, 110, 111, 100, 101, 115, 61] ++ [UInt8.ofNat (48 + n)] ++ [32, 116, 105, 109, 101, 61, 49, 32, 97, 102, 116, 101, 114, 61, 111, 107, 58, 122, 122]
def hZ (n : Nat) : HV := ⟨[113], n, 1, false, 0, 0, [111, 107, 58, 122, 122], 3, 11, 18, 0, [⟨1, 29, [122, 122], false, 0⟩]⟩
def hQ : HV := ⟨[113], 1, 1, false, 0, 0, [], 3, 11, 18, 0, []⟩
def hR : HV := ⟨[114], 1, 1, false, 0, 0, [115, 105, 110, 103, 108, 101, 38, 97, 110, 121, 58, 113, 91, 48, 93], 23, 31, 38, 0, [⟨4, 0, [], false, 0⟩, ⟨2, 57, [113], true, 0⟩, ⟨5, 0, [], false, 0⟩]⟩
def hC : HV := ⟨[113], 1, 1, false, 0, 0, [110, 111, 116, 58, 113, 124, 115, 105, 110, 103, 108, 101], 3, 11, 18, 0, [⟨3, 30, [113], false, 0⟩, ⟨4, 0, [], false, 0⟩, ⟨6, 0, [], false, 0⟩]⟩
theorem rd0 : readH (rfT 0) = ([], (2, 0)) := by rfl
theorem rd1 : readH (rfT 1) = ([], (2, 2)) := by rfl
theorem rd2 : readH (rfT 2) = ([], (2, 31)) := by rfl
theorem rd3 : readH (rfT 3) = ([], (3, 18)) := by rfl
theorem rd4 : readH (rfT 4) = ([], (4, 23)) := by rfl
theorem rd5 : readH (rfT 5) = ([hZ 1], (0, 0)) := by rfl
theorem rd6 : readH (rfT 6) = ([hQ, hR], (0, 0)) := by rfl
theorem rd7 : readH (rfT 7) = ([], (1, 0)) := by
  unfold readH
  rw [if_pos (by show (List.replicate 601 120).length > 600; rw [List.length_replicate]; omega)]
theorem rd9 : readH (rfT 9) = ([hC], (0, 0)) := by rfl
theorem rdN : ∀ n, n < 8 → 2 ≤ n + 1 → readH (rfN (n + 1)) = ([hZ (n + 1)], (0, 0)) := by
  intro n h1 h2
  have hc : n = 1 ∨ n = 2 ∨ n = 3 ∨ n = 4 ∨ n = 5 ∨ n = 6 ∨ n = 7 := by omega
  rcases hc with rfl | rfl | rfl | rfl | rfl | rfl | rfl <;> rfl

theorem take_pk {p : PS} (h : POK p) {L : List PJ} (hL : ∀ x ∈ L, NewJ 8 x) (hl : p.js.length + L.length ≤ 24) {G : List GV} : POK { p with js := p.js ++ L, gs := G } := by
  have hsum : sumT (p.js ++ L) = sumT p.js := by
    have : (L.map wtJ).sum ≤ 0 * L.length := sum_le wtJ 0 L (fun j hj => by unfold wtJ; rw [if_pos (hL j hj).1]; omega)
    unfold sumT
    rw [List.map_append, List.sum_append]
    omega
  have hcq : cntQ (p.js ++ L) = cntQ p.js := by
    have : (L.map cQ).sum ≤ 0 * L.length := sum_le cQ 0 L (fun j hj => by unfold cQ; rw [if_neg (by rw [(hL j hj).1]; omega)]; omega)
    unfold cntQ
    rw [List.map_append, List.sum_append]
    omega
  have hn := h.n
  have hq := h.q
  refine ⟨⟨?_, by simpa using hl, hn.nd, hn.lo, hn.hi, ?_, ?_⟩, ⟨?_, ?_, hq.nd, ?_, ?_⟩⟩
  · intro j hj
    rcases List.mem_append.1 hj with hj | hj
    · exact hn.js j hj
    · obtain ⟨a, b, c, d, e, f, g⟩ := hL j hj
      exact ⟨by omega, by omega, by omega, by omega, g⟩
  · intro j hj
    show j.sa ≤ p.now + (sumT (p.js ++ L) : Int)
    rw [hsum]
    rcases List.mem_append.1 hj with hj | hj
    · exact hn.sa j hj
    · obtain ⟨a, b, c⟩ := hL j hj
      have := hn.lo
      omega
  · intro j hj hh
    show overJ j ≤ p.now + (sumT (p.js ++ L) : Int)
    rw [hsum]
    rcases List.mem_append.1 hj with hj | hj
    · exact hn.ov j hj hh
    · have := (hL j hj).1
      unfold hasS at hh
      rw [this] at hh
      simp at hh
  · intro i hi
    have := hq.lt i hi
    show i < (p.js ++ L).length
    simp; omega
  · intro i hi
    show ((p.js ++ L).getD i pj0).st = 1
    rw [getD_app, if_pos (hq.lt i hi)]
    exact hq.q1 i hi
  · intro i hi hs
    change ((p.js ++ L).getD i pj0).st = 1 at hs
    have hi : i < (p.js ++ L).length := hi
    rw [getD_app] at hs
    split at hs
    · exact hq.al i ‹_› hs
    · exfalso
      rename_i h1
      have h2 : i - p.js.length < L.length := by simp at hi; omega
      have := (hL _ (getD_in h2)).1
      omega
  · show p.qs.length ≤ cntQ (p.js ++ L)
    rw [hcq]
    exact hq.cn
theorem take_small {p : PS} (hp : POK p) (h0 : cntG p.gs ≤ 24) (h1 : ∀ g ∈ p.gs, g.count ≤ 24) {own : List GV} {hs : List HV} (hl : own.length = hs.length) (h2 : ∀ g ∈ own, g.count ≤ 24) (hh : ∀ h ∈ hs, h.nodes ≤ 8 ∧ 1 ≤ h.time ∧ h.time ≤ 12 ∧ h.want.length ≤ 100) (hc : p.js.length + cntG own ≤ 24) : POK (takeF p own hs) := by
  have H : ∀ n, n ≤ hs.length → ∃ L, takeN p own hs n = p.js ++ L ∧ ∀ x ∈ L, NewJ 8 x := by
    intro n
    induction n with
    | zero => intro _; exact ⟨[], by simp [takeN], by simp⟩
    | succ n ih =>
      intro hn
      obtain ⟨L, q1, q2⟩ := ih (by omega)
      unfold takeN
      rw [q1]
      refine ⟨L ++ _, (List.append_assoc _ _ _), ?_⟩
      intro x hx
      rcases List.mem_append.1 hx with hx | hx
      · exact q2 x hx
      · have e := (List.mem_replicate.1 hx).2
        subst e
        have hm : hs.getD n hv0 ∈ hs := by rw [show hs.getD n hv0 = hs[n] from by simp [show n < hs.length by omega]]; exact List.getElem_mem _
        obtain ⟨a, b, c, d⟩ := hh _ hm
        exact ⟨rfl, rfl, rfl, b, c, a, code_len h0 h1 h2 d⟩
  obtain ⟨L, q1, q2⟩ := H hs.length (Nat.le_refl _)
  have e := takeN_len p own hs hs.length (by omega)
  rw [q1, ← hl, List.take_length, List.length_append] at e
  unfold takeF
  rw [q1]
  exact take_pk hp q2 (by omega)

theorem latN_no {gs : List GV} {nm : List UInt8} (h : ∀ g ∈ gs, g.name ≠ nm) : ∀ n, latN gs nm n = none := by
  intro n
  induction n with
  | zero => rfl
  | succ n ih =>
    unfold latN
    rw [if_neg, ih]
    intro e
    cases q : gs[n]? with
    | none => rw [q] at e; simp at e
    | some g =>
      rw [q] at e
      simp at e
      exact h g (List.mem_of_getElem? q) e
theorem HOK_z {n : Nat} (h : n ≤ 8) : HOK (hZ n) := by
  refine ⟨by simp [hZ], by simp [hZ], by simp [hZ], h, by simp [hZ], by simp [hZ], ?_⟩
  intro x hx
  simp [hZ] at hx
  subst hx
  exact ⟨by decide, by decide, by decide⟩
theorem HOK_q : HOK hQ := ⟨by decide, by decide, by decide, by decide, by decide, by decide, by decide⟩
theorem HOK_r : HOK hR := ⟨by decide, by decide, by decide, by decide, by decide, by decide, by decide⟩
theorem HOK_c : HOK hC := ⟨by decide, by decide, by decide, by decide, by decide, by decide, by decide⟩

/-- What a system must be, that the refusals are as they are. -/
structure RfOK (p : PS) : Prop where
  ok : POK p
  n1 : 1 ≤ p.nodes
  g0 : cntG p.gs ≤ 24
  g1 : ∀ g ∈ p.gs, g.count ≤ 24
  zz : ∀ g ∈ p.gs, g.name ≠ [122, 122]
theorem rf_ok {x : WS} (h : WOK x) (hn : NmW x.ms) : RfOK x.p := by
  have hw := h.wi
  refine ⟨hw.st.ok, h.n1, ?_, ?_, ?_⟩
  · rw [hw.gs, cntG_map, hw.bk.cnt]
    exact hw.st.ok.n.ln
  · rw [hw.gs]
    intro g hg
    obtain ⟨m, hm, rfl⟩ := List.mem_map.1 hg
    have := (hw.bk.good m hm).c6
    show m.count ≤ 24
    omega
  · rw [hw.gs]
    intro g hg
    obtain ⟨m, hm, rfl⟩ := List.mem_map.1 hg
    exact hn m hm
def oQ (n : Nat) : GV := ⟨[113], false, 0, n, 1⟩
theorem grp_z (k n : Nat) : grpF [hZ k] n = [oQ n] := rfl
theorem grp_c (n : Nat) : grpF [hC] n = [oQ n] := rfl
theorem grp_r (n : Nat) : grpF [hQ, hR] n = [oQ n, ⟨[114], false, 0, n + 1, 1⟩] := rfl
theorem miss_z {p : PS} (h : RfOK p) (k n : Nat) : missH p.gs [oQ n] [hZ k] = some 29 := by
  have e : meantG p.gs [oQ n] [122, 122] = none := by
    unfold meantG
    have : latN [oQ n] [122, 122] [oQ n].length = none := rfl
    rw [this]
    dsimp only
    rw [latN_no h.zz]
  unfold missH
  have : missS p.gs [oQ n] (hZ k).want = some 29 := by
    show missS p.gs [oQ n] [⟨1, 29, [122, 122], false, 0⟩] = some 29
    unfold missS
    rw [if_pos]
    refine ⟨rfl, ?_⟩
    unfold exS
    dsimp only
    rw [e]
    rfl
  rw [this]
theorem rfd_z {p : PS} (h : RfOK p) : Rfd p (rfT 5) 6 29 [] := by
  refine ⟨?_, ⟨by rw [rd5]; decide, ?_, ?_⟩, ?_⟩
  · unfold subF
    rw [rd5]
    dsimp only
    rw [if_neg (by decide)]
    have : wideF p.nodes [hZ 1] = none := by
      unfold wideF
      rw [if_neg (by have := h.n1; show ¬ p.nodes < 1; omega)]
      rfl
    rw [this, grp_z, miss_z h]
  · rw [rd5]
    intro x hx
    rw [List.mem_singleton.1 hx]
    exact HOK_z (by omega)
  · rw [rd5]; decide
  · intro own hs ho hh hc
    rw [rd5] at ho hh
    dsimp only at ho hh
    rw [grp_z] at ho
    subst ho; subst hh
    exact take_small h.ok h.g0 h.g1 rfl (by simp [oQ]) (by decide) hc
theorem rfd_n {p : PS} (h : RfOK p) (hn : p.nodes < 8) : Rfd p (rfN (p.nodes + 1)) 5 11 [] := by
  have hr := rdN p.nodes hn (by have := h.n1; omega)
  refine ⟨?_, ⟨by rw [hr]; simp, ?_, ?_⟩, ?_⟩
  · unfold subF
    rw [hr]
    dsimp only
    rw [if_neg (by decide)]
    have : wideF p.nodes [hZ (p.nodes + 1)] = some 11 := by
      unfold wideF
      rw [if_pos (by show p.nodes < p.nodes + 1; omega)]
      rfl
    rw [this]
  · rw [hr]
    intro x hx
    rw [List.mem_singleton.1 hx]
    exact HOK_z (by omega)
  · rw [hr]
    intro x hx
    rw [List.mem_singleton.1 hx]
    simp [hZ]
  · intro own hs ho hh hc
    rw [hr] at ho hh
    dsimp only at ho hh
    rw [grp_z] at ho
    subst ho; subst hh
    refine take_small h.ok h.g0 h.g1 rfl (by simp [oQ]) ?_ hc
    intro x hx
    rw [List.mem_singleton.1 hx]
    exact ⟨by show p.nodes + 1 ≤ 8; omega, by simp [hZ], by simp [hZ], by simp [hZ]⟩
theorem rfd_r {p : PS} (h : RfOK p) : Rfd p (rfT 6) 6 57 [] := by
  refine ⟨?_, ⟨by rw [rd6]; decide, ?_, ?_⟩, ?_⟩
  · unfold subF
    rw [rd6]
    dsimp only
    rw [if_neg (by decide)]
    have : wideF p.nodes [hQ, hR] = none := by
      unfold wideF
      rw [if_neg (by have := h.n1; show ¬ p.nodes < 1; omega)]
      unfold wideF
      rw [if_neg (by have := h.n1; show ¬ p.nodes < 1; omega)]
      rfl
    rw [this, grp_r]
    rfl
  · rw [rd6]
    intro x hx
    simp at hx
    rcases hx with rfl | rfl
    · exact HOK_q
    · exact HOK_r
  · rw [rd6]; decide
  · intro own hs ho hh hc
    rw [rd6] at ho hh
    dsimp only at ho hh
    rw [grp_r] at ho
    subst ho; subst hh
    exact take_small h.ok h.g0 h.g1 rfl (by simp [oQ]) (by decide) hc
theorem rfd_c {p : PS} (h : RfOK p) : Rfd p (rfT 9) 7 0 [0] := by
  refine ⟨?_, ⟨by rw [rd9]; decide, ?_, ?_⟩, ?_⟩
  · unfold subF
    rw [rd9]
    dsimp only
    rw [if_neg (by decide)]
    have : wideF p.nodes [hC] = none := by
      unfold wideF
      rw [if_neg (by have := h.n1; show ¬ p.nodes < 1; omega)]
      rfl
    rw [this, grp_c]
    have e : missH p.gs [oQ p.js.length] [hC] = none := rfl
    rw [e]
    have r : ringF (waitsL [oQ p.js.length] [hC]) = [0] := rfl
    rw [r]
    rfl
  · rw [rd9]
    intro x hx
    rw [List.mem_singleton.1 hx]
    exact HOK_c
  · rw [rd9]; decide
  · intro own hs ho hh hc
    rw [rd9] at ho hh
    dsimp only at ho hh
    rw [grp_c] at ho
    subst ho; subst hh
    exact take_small h.ok h.g0 h.g1 rfl (by simp [oQ]) (by decide) hc
theorem rfd_all {p : PS} (h : RfOK p) : ∀ k, k < 8 → Rfd p (rfT k) (rfE k).1 (rfE k).2 [] := by
  intro k hk
  have hc : k = 0 ∨ k = 1 ∨ k = 2 ∨ k = 3 ∨ k = 4 ∨ k = 5 ∨ k = 6 ∨ k = 7 := by omega
  rcases hc with rfl | rfl | rfl | rfl | rfl | rfl | rfl | rfl
  · exact rfd_read h.ok rd0 (by decide)
  · exact rfd_read h.ok rd1 (by decide)
  · exact rfd_read h.ok rd2 (by decide)
  · exact rfd_read h.ok rd3 (by decide)
  · exact rfd_read h.ok rd4 (by decide)
  · exact rfd_z h
  · exact rfd_r h
  · exact rfd_read h.ok rd7 (by decide)
end Go.Proofs.YtanknpmojblmcabGreatDoor

/-
  A world's walk: load, room.
-/
set_option linter.unusedSimpArgs false
set_option linter.unusedVariables false
namespace Go.Proofs.YtanknpmojblmcabGreatDoor
open Go.RowKit

variable {D E : Nat → Prop} {bw sy kb : Nat} {x : WS} {gv jv qv bv : Value} {sl : Nat → Sl} {w w' : World}

theorem Sts.cells {a : Option Addr} {c : Nat} {l : List PJ} (hS : Sts (.slice a l.length c) l w) : ∀ k, k < l.length → ∃ g, a = some ⟨g, 0, none⟩ ∧ l.length ≤ c ∧ g < w.heap.size ∧ ∀ i, i < 5 → w.cell? ⟨g, k * 5 + i, none⟩ = (stC (l.getD k pj0))[i]? := by
  intro k hk
  rcases hS with ⟨_, hn⟩ | ⟨g, cap, hv, hc, hg, hcell⟩
  · rw [hn] at hk; simp at hk
  · injection hv with e1 e2 e3
    subst e3
    exact ⟨g, e1, hc, hg, fun i hi => hcell k hk i hi⟩
theorem othN_le (js : List PJ) (id : Nat) (m : Int) (h : ∀ k, (js.getD k pj0).nd ≤ 8) : ∀ n, othN js id m n ≤ 8 * n := by
  intro n
  induction n with
  | zero => simp [othN]
  | succ n ih =>
    unfold othN
    have := h n
    split <;> omega
/-- Jobs whose numbers are small. -/
def SmlJ (js : List PJ) : Prop := ∀ k, (js.getD k pj0).nd ≤ 8 ∧ (js.getD k pj0).tm ≤ 12 ∧ -1 ≤ (js.getD k pj0).sa ∧ (js.getD k pj0).sa ≤ 6000

set_option maxRecDepth 100000 in
set_option maxHeartbeats 4000000 in
theorem wLoad (lv : Value) (js : List PJ) (id : Nat) (m : Int) (w : World) (hS : Sts lv js w) (hl : js.length ≤ 24) (hj : SmlJ js) :
    Calls Tryz.prog 63 #[lv, .int .i64 (id : Int), .int .i64 m] w fun e w' => e = .returned (.int .i64 ((othN js id m js.length : Nat) : Int)) ∧ Below w.heap.size w w' := by
  obtain ⟨la, lc, rfl⟩ := hS.form
  have HC : Hid _ := hS.cells
  have HO : Hid _ := othN_le js id m (fun k => (hj k).1)
  have HJ : Hid (SmlJ js) := hj
  clear hS hj
  go_enter Tryz.func63, Tryz.ntmps63
  go_wp2_with fail
  go_loopg [7, 8] (js.length + 1) (fun r n z wr => ∃ (k : Nat), k ≤ js.length ∧ r = js.length - k + 1 ∧ z = .int .i64 (k : Int) ∧ n = .int .i64 ((othN js id m k : Nat) : Int) ∧ Below w.heap.size w wr)
  case atStart => exact ⟨0, Nat.zero_le _, rfl, rfl, rfl, Below.refl _ _⟩
  case round =>
    obtain ⟨k, hk, rfl, rfl, rfl, HB⟩ := hrel
    by_cases hlt : k < js.length
    · have hlt' : (k : Int) < (js.length : Int) := by omega
      obtain ⟨g, rfl, hc, hg, hcell⟩ := HC.out k hlt
      obtain ⟨j1, j2, j3, j4⟩ := HJ.out k
      have hob := HO.out k
      have l0 := (HB.cell (p := ⟨g, k * 5 + 0, none⟩) hg).trans (hcell 0 (by omega)); have l1 := (HB.cell (p := ⟨g, k * 5 + 1, none⟩) hg).trans (hcell 1 (by omega)); have l2 := (HB.cell (p := ⟨g, k * 5 + 2, none⟩) hg).trans (hcell 2 (by omega)); have l3 := (HB.cell (p := ⟨g, k * 5 + 3, none⟩) hg).trans (hcell 3 (by omega))
      have HN1 : Hid (othN js id m (k + 1) = othN js id m k + (if k ≠ id ∧ wantsAt (js.getD k pj0) m = true then (js.getD k pj0).nd else 0)) := rfl
      obtain ⟨j, hj⟩ : ∃ j, j = js.getD k pj0 := ⟨_, rfl⟩
      rw [← hj] at l0 l1 l2 l3 j1 j2 j3 j4 HN1
      simp [stC] at l0 l1 l2 l3
      clear hcell hj
      obtain ⟨ok, hok⟩ : ∃ ok, ok = othN js id m k := ⟨_, rfl⟩
      rw [← hok] at hob HN1 ⊢
      clear hok
      have okI : (ok : Int) ≤ 200 := by omega
      have ndI : (j.nd : Int) ≤ 8 := by omega
      have tmI : (j.tm : Int) ≤ 12 := by omega
      obtain ⟨hs, hhs⟩ : ∃ hs, hs = hasS j := ⟨_, rfl⟩
      have HHS : Hid (hs = hasS j) := hhs
      have HWA : Hid (wantsAt j m = (hs && (decide (j.sa ≤ m) && decide (m < j.sa + (j.tm : Int))))) := by show _ = _; unfold wantsAt overJ; rw [hhs]
      clear hhs
      obtain ⟨wa, hwa⟩ : ∃ wa, wa = wantsAt j m := ⟨_, rfl⟩
      rw [← hwa] at HN1 HWA
      clear hwa
      go_upto_region 5 with fail
      go_cut [9] (fun s9 wx => s9 = .bool hs ∧ wx = wr)
      case first =>
        by_cases s1 : j.st = 1
        · have e : hs = true := by rw [HHS.out]; unfold hasS; rw [s1]; rfl
          have s1' : ((j.st : Int) == 1) = true := by rw [s1]; rfl
          have s1n : (j.st : Int) = 1 := by omega
          clear HHS HWA
          subst e
          go_wp2_with fail
          go_meet
          case rel => exact ⟨rfl, rfl⟩
        · have s1' : ((j.st : Int) == 1) = false := by rw [beq_eq_false_iff_ne]; omega
          by_cases s2 : j.st = 2
          · have e : hs = true := by rw [HHS.out]; unfold hasS; rw [s2]; rfl
            have s2' : ((j.st : Int) == 2) = true := by rw [s2]; rfl
            have s2n : (j.st : Int) = 2 := by omega
            clear HHS HWA
            subst e
            go_wp2_with fail
            go_meet
            case rel => exact ⟨rfl, rfl⟩
          · have s2' : ((j.st : Int) == 2) = false := by rw [beq_eq_false_iff_ne]; omega
            have e : hs = false := by rw [HHS.out]; unfold hasS; rw [s1', s2']; rfl
            clear HHS HWA
            subst e
            go_wp2_with fail
            go_meet
            case rel => exact ⟨rfl, rfl⟩
      case rest =>
        obtain ⟨rfl, rfl⟩ := hcut
        rename World => wr
        clear HHS
        go_upto_region 6 with fail
        go_cut [59] (fun s59 wx => s59 = .bool (decide (k ≠ id) && wa) ∧ ∃ n, wx = wr.drewN n)
        case first =>
          by_cases e1 : k = id
          · have e1' : ((k : Int) != (id : Int)) = false := by simp; omega
            have e1i : (k : Int) = (id : Int) := by omega
            have E1 : Hid (decide (k ≠ id) = false) := by show _ = _; simp [e1]
            go_quiet (fail)
            go_wp2_with fail
            go_meet
            case rel => exact ⟨by rw [E1.out]; rfl, _, rfl⟩
          · have e1' : ((k : Int) != (id : Int)) = true := by simp; omega
            have e1i : ¬ (k : Int) = (id : Int) := by omega
            have E1 : Hid (decide (k ≠ id) = true) := by show _ = _; simp [e1]
            cases hs with
            | false =>
              have E2 : Hid (wa = false) := HWA.out
              clear HWA
              go_quiet (fail)
              go_wp2_with fail
              go_meet
              case rel => exact ⟨by rw [E1.out, E2.out]; rfl, _, rfl⟩
            | true =>
              by_cases e2 : j.sa ≤ m
              · by_cases e3 : m < j.sa + (j.tm : Int)
                · have E2 : Hid (wa = true) := by show _ = _; rw [HWA.out]; simp [e2, e3]
                  clear HWA
                  go_quiet (fail)
                  go_wp2_with fail
                  go_meet
                  case rel => exact ⟨by rw [E1.out, E2.out]; rfl, _, rfl⟩
                · have E2 : Hid (wa = false) := by show _ = _; rw [HWA.out]; simp [e3]
                  clear HWA
                  go_quiet (fail)
                  go_wp2_with fail
                  go_meet
                  case rel => exact ⟨by rw [E1.out, E2.out]; rfl, _, rfl⟩
              · have E2 : Hid (wa = false) := by show _ = _; rw [HWA.out]; simp [e2]
                clear HWA
                go_quiet (fail)
                go_wp2_with fail
                go_meet
                case rel => exact ⟨by rw [E1.out, E2.out]; rfl, _, rfl⟩
        case rest =>
          obtain ⟨rfl, n, rfl⟩ := hcut
          have HB2 := below_drewN HB n
          replace l1 : (wr.drewN n).cell? ⟨g, k * 5 + 1, none⟩ = _ := l1
          clear l0 l2 l3 HWA
          generalize wr.drewN n = wz at *
          obtain ⟨t, ht⟩ : ∃ t, t = (decide (k ≠ id) && wa) := ⟨_, rfl⟩
          have HX : Hid (othN js id m (k + 1) = ok + if t = true then j.nd else 0) := by
            show _ = _
            rw [HN1.out, ht]
            by_cases e : k ≠ id ∧ wa = true
            · rw [if_pos e, if_pos (by simp [e.1, e.2])]
            · rw [if_neg e, if_neg (by simpa using e)]
          rw [← ht]
          clear ht HN1
          cases t with
          | true =>
            go_wp2_with fail
            go_roundg (js.length - (k + 1) + 1)
            case measure => omega
            case rel => exact ⟨k + 1, by omega, rfl, by go_num, by rw [HX.out]; go_num, HB2⟩
          | false =>
            go_wp2_with fail
            go_roundg (js.length - (k + 1) + 1)
            case measure => omega
            case rel => exact ⟨k + 1, by omega, rfl, by go_num, by rw [HX.out]; rfl, HB2⟩
    · have hlt' : ¬ (k : Int) < (js.length : Int) := by omega
      have hke : k = js.length := by omega
      subst hke
      go_wp2_with fail
      go_ret
      exact ⟨rfl, HB⟩

/-- room is fits. -/
theorem room_fits (js : List PJ) (nodes id : Nat) (t : Int) (n : Nat) : fitsN js nodes id t n = true ↔ ∀ k : Nat, k < n → othN js id (t + (k : Int)) js.length + (js.getD id pj0).nd ≤ nodes := by
  rw [fitsN_iff]
  constructor
  · intro h k hk
    have := h k hk
    unfold loadF at this
    rw [oth_want] at this
    omega
  · intro h k hk
    have := h k hk
    unfold loadF
    rw [oth_want]
    omega

set_option maxRecDepth 100000 in
set_option maxHeartbeats 4000000 in
theorem wRoom (h : WM D E bw sy kb x gv jv qv bv sl w) (lv : Value) (hS : Sts lv x.p.js w) (hl : x.p.js.length ≤ 24) (hj : SmlJ x.p.js) (id : Nat) (hid : id < x.p.js.length) (t : Int) (t0 : 0 ≤ t) (t1 : t ≤ 7000) (hn : x.p.nodes ≤ 8) :
    Calls Tryz.prog 44 #[.pointer (some ⟨bw, 0, none⟩), lv, .int .i64 (id : Int), .int .i64 t] w fun e w' => e = .returned (.bool (fitsF x.p.js x.p.nodes id t)) ∧ Below w.heap.size w w' := by
  obtain ⟨la, lc, rfl⟩ := hS.form
  obtain ⟨g, rfl, hc, hg, hcell⟩ := hS.cells id hid
  obtain ⟨j1, j2, j3, j4⟩ := hj id
  have HO : Hid (∀ m n, othN x.p.js id m n ≤ 8 * n) := fun m => othN_le x.p.js id m (fun k => (hj k).1)
  have HJ : Hid (SmlJ x.p.js) := hj
  have HS : Hid (Sts (.slice (some ⟨g, 0, none⟩) x.p.js.length lc) x.p.js w) := hS
  have HW : Hid (WM D E bw sy kb x gv jv qv bv sl w) := h
  have hbw := whole_lt h.wo
  have L1 := hcell 1 (by omega); have L2 := hcell 2 (by omega)
  obtain ⟨j, hjj⟩ : ∃ j, j = x.p.js.getD id pj0 := ⟨_, rfl⟩
  rw [← hjj] at L1 L2 j1 j2 j3 j4
  have HF : Hid (fitsF x.p.js x.p.nodes id t = fitsN x.p.js x.p.nodes id t j.tm) := by show _ = _; unfold fitsF; rw [hjj]
  have HRF : Hid (∀ n, fitsN x.p.js x.p.nodes id t n = true ↔ ∀ k : Nat, k < n → othN x.p.js id (t + (k : Int)) x.p.js.length + j.nd ≤ x.p.nodes) := by intro n; rw [hjj]; exact room_fits _ _ _ _ _
  simp [stC] at L1 L2
  clear h hS hj hcell hjj
  obtain ⟨N, hN⟩ : ∃ N, N = x.p.js.length := ⟨_, rfl⟩
  rw [← hN] at hl hid hc HS ⊢
  have HNN : Hid (N = x.p.js.length) := hN
  clear hN
  have hidI : (id : Int) < (N : Int) := by omega
  have tmI : (j.tm : Int) ≤ 12 := by omega
  have ndI : (j.nd : Int) ≤ 8 := by omega
  go_enter Tryz.func44, Tryz.ntmps44
  go_wp2_with fail
  go_loopg [9] (j.tm + 1) (fun r z wr => ∃ (k : Nat) (z0 : Int), k ≤ j.tm ∧ r = j.tm - k + 1 ∧ z = .int .i64 z0 ∧ Hid (z0 = t + (k : Int)) ∧ z0 ≤ 8000 ∧ Hid (fitsN x.p.js x.p.nodes id t k = true) ∧ Below w.heap.size w wr)
  case atStart => exact ⟨0, t, Nat.zero_le _, rfl, rfl, by show _ = _; simp, by omega, rfl, Below.refl _ _⟩
  case round =>
    obtain ⟨k, z0, hk, rfl, rfl, HZ, hz8, HFN, HB⟩ := hrel
    have z00 : 0 ≤ z0 := by have := HZ.out; omega
    have l1 := (HB.cell (p := ⟨g, id * 5 + 1, none⟩) hg).trans L1
    have l2 := (HB.cell (p := ⟨g, id * 5 + 2, none⟩) hg).trans L2
    by_cases hlt : k < j.tm
    · have hlt' : z0 < t + (j.tm : Int) := by have := HZ.out; omega
      have HW1 : Hid (WM D E bw sy kb x gv jv qv bv sl wr) := HW.out.below HB
      have HS1 : Hid (Sts (.slice (some ⟨g, 0, none⟩) N lc) x.p.js wr) := by
        rcases HS.out with q | ⟨g', cap, q1, q2, q3, q4⟩
        · exact Or.inl q
        · exact Or.inr ⟨g', cap, q1, q2, Nat.lt_of_lt_of_le q3 HB.size, fun i hi i2 hi2 => (HB.cell (p := ⟨g', i * 5 + i2, none⟩) q3).trans (q4 i hi i2 hi2)⟩
      go_wp2_with fail
      refine (wLoad _ x.p.js id z0 wr HS1.out (by rw [← HNN.out]; exact hl) HJ.out).mono ?_
      rintro e y1 ⟨he, hY1⟩
      have hob := HO.out z0 x.p.js.length
      obtain ⟨o, ho⟩ : ∃ o, o = othN x.p.js id z0 x.p.js.length := ⟨_, rfl⟩
      have hoI : (o : Int) ≤ 200 := by rw [← ho, ← HNN.out] at hob; omega
      have HO1 : Hid (o = othN x.p.js id (t + (k : Int)) x.p.js.length) := by show _ = _; rw [ho, HZ.out]
      rw [← ho] at he
      clear ho hob
      subst he
      have HB1 := HB.trans (hY1.mono HB.size)
      have m1 := (hY1.cell (p := ⟨g, id * 5 + 1, none⟩) (Nat.lt_of_lt_of_le hg HB.size)).trans l1
      have c1 := (HW1.out.below hY1).c.2.1
      clear hY1 HB l1 l2 HW1 HS1
      obtain ⟨nn, hnn⟩ : ∃ nn, nn = x.p.nodes := ⟨_, rfl⟩
      rw [← hnn] at c1 hn
      have HNX : Hid (nn = x.p.nodes) := hnn
      clear hnn
      by_cases hfit : o + j.nd ≤ nn
      · have hfI : ¬ (nn : Int) < (o : Int) + (j.nd : Int) := by omega
        have HFN2 : Hid (fitsN x.p.js x.p.nodes id t (k + 1) = true) := by
          rw [HNX.out] at hfit
          refine (HRF.out (k + 1)).mpr ?_
          intro q hq
          by_cases e : q = k
          · subst e; rw [← HO1.out]; exact hfit
          · exact ((HRF.out k).mp HFN.out) q (by omega)
        go_wp2_with fail
        go_quiet (fail)
        go_wp2_with fail
        go_roundg (j.tm - (k + 1) + 1)
        case measure => omega
        case rel => exact ⟨k + 1, z0 + 1, by omega, rfl, by go_num, by show _ = _; have := HZ.out; omega, by have := HZ.out; omega, HFN2, below_drewN HB1 _⟩
      · have hfI : (nn : Int) < (o : Int) + (j.nd : Int) := by omega
        have HFF : Hid (fitsF x.p.js x.p.nodes id t = false) := by
          show _ = _
          rw [HNX.out] at hfit
          rw [HF.out, Bool.eq_false_iff]
          intro q
          apply hfit
          have := ((HRF.out j.tm).mp q) k hlt
          rw [← HO1.out] at this
          exact this
        go_wp2_with fail
        go_quiet (fail)
        go_wp2_with fail
        go_ret
        exact ⟨by rw [HFF.out]; rfl, below_drewN HB1 _⟩
    · have hlt' : ¬ z0 < t + (j.tm : Int) := by have := HZ.out; omega
      have hke : k = j.tm := by omega
      have HFF : Hid (fitsF x.p.js x.p.nodes id t = true) := by show _ = _; rw [HF.out, ← hke]; exact HFN.out
      go_wp2_with fail
      go_ret
      exact ⟨by rw [HFF.out]; rfl, HB⟩
end Go.Proofs.YtanknpmojblmcabGreatDoor

/-
  What is refused changes nothing: strange, stubborn, still.
-/
set_option linter.unusedSimpArgs false
set_option linter.unusedVariables false
namespace Go.Proofs.YtanknpmojblmcabGreatDoor
open Go.RowKit

/-- A world as it was, its queue's row aside, and what else lay there. -/
def WK (D E : Nat → Prop) (bw sy kb : Nat) (x : WS) (bv : Value) (sl : Nat → Sl) (w0 w : World) : Prop := (∃ gv jv qv, WM D E bw sy kb x gv jv qv bv sl w) ∧ Keep E w0 w
variable {D E : Nat → Prop} {bw sy kb : Nat} {x : WS} {gv jv qv bv : Value} {sl : Nat → Sl} {w0 w w' : World}
theorem WK.zero (h : WM D E bw sy kb x gv jv qv bv sl w) : WK D E bw sy kb x bv sl w w := ⟨⟨_, _, _, h⟩, Keep.refl _ _⟩
theorem WK.below (h : WK D E bw sy kb x bv sl w0 w) (k : Below w.heap.size w w') : WK D E bw sy kb x bv sl w0 w' := by
  obtain ⟨⟨gv, jv, qv, hW⟩, hK⟩ := h
  exact ⟨⟨_, _, _, hW.below k⟩, hK.trans (Keep.below k hW.sm.dom)⟩
theorem WK.alloc (h : WK D E bw sy kb x bv sl w0 w) (o : Obj) : WK D E bw sy kb x bv sl w0 (w.alloc o) := h.below ((Below.refl _ w).alloc (Nat.le_refl _) o)
theorem WK.c0 (h : WK D E bw sy kb x bv sl w0 w) : w.cell? ⟨bw, 0, none⟩ = some (.pointer (some ⟨sy, 0, none⟩)) := by
  obtain ⟨⟨gv, jv, qv, hW⟩, hK⟩ := h
  exact hW.c.1
theorem WK.c2 (h : WK D E bw sy kb x bv sl w0 w) : w.cell? ⟨bw, 2, none⟩ = some (.int .i64 x.p.now) := by
  obtain ⟨⟨gv, jv, qv, hW⟩, hK⟩ := h
  exact hW.c.2.2.1
theorem WK.go (h : WK D E bw sy kb x bv sl w0 w) (k : WK D E bw sy kb x bv sl w w') : WK D E bw sy kb x bv sl w0 w' := ⟨k.1, h.2.trans k.2⟩

theorem WK.status (h : WK D E bw sy kb x bv sl w0 w) (hP : POK x.p) (id : Int) (hid : hasP x.p id = false) :
    Calls Tryz.prog 31 #[.pointer (some ⟨sy, 0, none⟩), .int .i64 id] w fun e w' => e = .returned (.tuple #[.agg #[.int .i64 0, .int .i64 0, .int .i64 0, .int .i64 0, .int .i64 0], .int .i64 11]) ∧ WK D E bw sy kb x bv sl w0 w' := by
  have h' := h
  obtain ⟨⟨gv, jv, qv, hW⟩, hK⟩ := h
  refine (syStatus hW.sm id hP.n.ln).mono ?_
  rintro e y ⟨he, hY⟩
  have hs : statP x.p id = ([.int .i64 0, .int .i64 0, .int .i64 0, .int .i64 0, .int .i64 0], 11) := by unfold statP; rw [if_pos hid]
  rw [hs] at he
  exact ⟨he, h'.below hY⟩
theorem WK.code (h : WK D E bw sy kb x bv sl w0 w) (hP : POK x.p) (id : Int) (hid : hasP x.p id = false) :
    Calls Tryz.prog 40 #[.pointer (some ⟨sy, 0, none⟩), .int .i64 id] w fun e w' => e = .returned (.tuple #[.string ⟨#[]⟩, .int .i64 11]) ∧ WK D E bw sy kb x bv sl w0 w' := by
  have h' := h
  obtain ⟨⟨gv, jv, qv, hW⟩, hK⟩ := h
  refine (syCode hW.sm id hP.n.ln).mono ?_
  rintro e y ⟨he, rfl⟩
  have hs : codeP x.p id = ([], 11) := by unfold codeP; rw [if_pos hid]
  rw [hs] at he
  exact ⟨he, h'⟩
theorem WK.finish (h : WK D E bw sy kb x bv sl w0 w) (hP : POK x.p) (id : Int) (ok : Bool) (n : Nat) (hf : finishF x.p id ok = (x.p, n)) :
    Calls Tryz.prog 55 #[.pointer (some ⟨sy, 0, none⟩), .int .i64 id, .bool ok] w fun e w' => e = .returned (.int .i64 (n : Int)) ∧ WK D E bw sy kb x bv sl w0 w' := by
  obtain ⟨⟨gv, jv, qv, hW⟩, hK⟩ := h
  refine (syFinish hW.sm hP id ok).mono ?_
  rintro e y ⟨he, ⟨qv', hS⟩, hY⟩
  rw [hf] at he hS
  exact ⟨he, ⟨_, _, _, hW.sys hS hY rfl rfl rfl⟩, hK.trans hY⟩
theorem WK.cancel (h : WK D E bw sy kb x bv sl w0 w) (hP : POK x.p) (id : Int) (n : Nat) (hf : cancelF x.p id = (x.p, n)) :
    Calls Tryz.prog 54 #[.pointer (some ⟨sy, 0, none⟩), .int .i64 id] w fun e w' => e = .returned (.int .i64 (n : Int)) ∧ WK D E bw sy kb x bv sl w0 w' := by
  obtain ⟨⟨gv, jv, qv, hW⟩, hK⟩ := h
  refine (syCancel hW.sm hP id).mono ?_
  rintro e y ⟨he, ⟨qv', hS⟩, hY⟩
  rw [hf] at he hS
  exact ⟨he, ⟨_, _, _, hW.sys hS hY rfl rfl rfl⟩, hK.trans hY⟩
theorem WK.tick (h : WK D E bw sy kb x bv sl w0 w) (hP : POK x.p) (hn : x.p.now ≤ 3000) (k : Int) (n : Nat) (hf : tickF x.p k = (x.p, n)) :
    Calls Tryz.prog 53 #[.pointer (some ⟨sy, 0, none⟩), .int .i64 k] w fun e w' => e = .returned (.int .i64 (n : Int)) ∧ WK D E bw sy kb x bv sl w0 w' := by
  obtain ⟨⟨gv, jv, qv, hW⟩, hK⟩ := h
  refine (syTick hW.sm hP k hn).mono ?_
  rintro e y ⟨he, ⟨qv', hS⟩, hY⟩
  rw [hf] at he hS
  exact ⟨he, ⟨_, _, _, hW.sys hS hY rfl rfl rfl⟩, hK.trans hY⟩

set_option maxRecDepth 100000 in
set_option maxHeartbeats 4000000 in
theorem wStrange (h : WK D E bw sy kb x bv sl w0 w) (hP : POK x.p) (id : Int) (hid : hasP x.p id = false) :
    Calls Tryz.prog 46 #[.pointer (some ⟨bw, 0, none⟩), .int .i64 id] w fun e w' => e = .returned (.bool true) ∧ WK D E bw sy kb x bv sl w0 w' := by
  have HW : Hid (WK D E bw sy kb x bv sl w0 w) := h
  have HP : Hid (POK x.p) := hP
  have HI : Hid (hasP x.p id = false) := hid
  have c0 := h.c0
  clear h hP hid
  go_enter Tryz.func46, Tryz.ntmps46
  go_wp2_with fail
  refine (HW.out.status HP.out id HI.out).mono ?_
  rintro e y1 ⟨rfl, h1⟩
  have H2 : Hid (WK D E bw sy kb x bv sl w0 (y1.alloc (.cells #[.int .i64 0, .int .i64 0, .int .i64 0, .int .i64 0, .int .i64 0] 35))) := h1.alloc _
  have c1 := H2.out.c0
  clear h1 c0 HW
  go_wp2_with fail
  refine (H2.out.code HP.out id HI.out).mono ?_
  rintro e y3 ⟨rfl, h3⟩
  have H3 : Hid (WK D E bw sy kb x bv sl w0 y3) := h3
  have c3 := h3.c0
  clear h3 c1 H2
  go_wp2_with fail
  refine (H3.out.finish HP.out id true 11 (by unfold finishF; rw [if_pos HI.out])).mono ?_
  rintro e y4 ⟨rfl, h4⟩
  have H4 : Hid (WK D E bw sy kb x bv sl w0 y4) := h4
  have c4 := h4.c0
  clear h4 c3 H3
  go_wp2_with fail
  refine (H4.out.cancel HP.out id 11 (by unfold cancelF; rw [if_pos HI.out])).mono ?_
  rintro e y5 ⟨rfl, h5⟩
  have H5 : Hid (WK D E bw sy kb x bv sl w0 y5) := h5
  clear h5 c4 H4
  go_wp2_with fail
  go_ret
  exact ⟨rfl, H5.out⟩

set_option maxRecDepth 100000 in
set_option maxHeartbeats 4000000 in
theorem wStill (h : WK D E bw sy kb x bv sl w0 w) (hP : POK x.p) (hn : x.p.now ≤ 3000) :
    Calls Tryz.prog 48 #[.pointer (some ⟨bw, 0, none⟩)] w fun e w' => e = .returned (.bool true) ∧ WK D E bw sy kb x bv sl w0 w' := by
  have HW : Hid (WK D E bw sy kb x bv sl w0 w) := h
  have HP : Hid (POK x.p) := hP
  have HN : Hid (x.p.now ≤ 3000) := hn
  have hlo := hP.n.lo
  have c0 := h.c0
  clear h hP
  have T : ∀ k : Int, k < 1 ∨ 200 < k → tickF x.p k = (x.p, 10) := by intro k hk; unfold tickF; rw [if_pos hk]
  have HT : Hid (∀ k : Int, k < 1 ∨ 200 < k → tickF x.p k = (x.p, 10)) := T
  clear T
  go_enter Tryz.func48, Tryz.ntmps48
  go_wp2_with fail
  refine (HW.out.tick HP.out HN.out 0 10 (HT.out 0 (by omega))).mono ?_
  rintro e y1 ⟨rfl, h1⟩
  have H1 : Hid (WK D E bw sy kb x bv sl w0 y1) := h1
  have c1 := h1.c0
  clear h1 c0 HW
  go_wp2_with fail
  refine (H1.out.tick HP.out HN.out (-1) 10 (HT.out (-1) (by omega))).mono ?_
  rintro e y2 ⟨rfl, h2⟩
  have H2 : Hid (WK D E bw sy kb x bv sl w0 y2) := h2
  have c2 := h2.c0
  clear h2 c1 H1
  go_wp2_with fail
  refine (H2.out.tick HP.out HN.out 201 10 (HT.out 201 (by omega))).mono ?_
  rintro e y3 ⟨rfl, h3⟩
  have H3 : Hid (WK D E bw sy kb x bv sl w0 y3) := h3
  have c3 := h3.c0
  clear h3 c2 H2
  go_wp2_with fail
  refine (H3.out.tick HP.out HN.out 9223372036854775807 10 (HT.out 9223372036854775807 (by omega))).mono ?_
  rintro e y4 ⟨rfl, h4⟩
  have H4 : Hid (WK D E bw sy kb x bv sl w0 y4) := h4
  have c4 := h4.c0
  have c5 := h4.c2
  clear h4 c3 H3
  obtain ⟨t, ht⟩ : ∃ t, t = x.p.now := ⟨_, rfl⟩
  rw [← ht] at c5 hn hlo
  have HTT : Hid (t = x.p.now) := ht
  clear ht
  by_cases hc : 3000 - t < 200
  · go_wp2_with fail
    refine (H4.out.tick HP.out HN.out (3000 - t + 1) 13 (by unfold tickF; rw [if_neg (by omega), if_pos (by rw [← HTT.out]; omega)])).mono ?_
    rintro e y5 ⟨rfl, h5⟩
    have H5 : Hid (WK D E bw sy kb x bv sl w0 y5) := h5
    clear h5 c4 c5 H4
    go_wp2_with fail
    go_ret
    exact ⟨rfl, H5.out⟩
  · go_wp2_with fail
    go_ret
    exact ⟨rfl, H4.out⟩

set_option maxRecDepth 100000 in
set_option maxHeartbeats 8000000 in
theorem wStubborn (h : WK D E bw sy kb x bv sl w0 w) (hP : POK x.p) (lv : Value) (hS : Sts lv x.p.js w) (hne : ∀ g, lv.ownBlock = some g → ¬ E g) :
    Calls Tryz.prog 47 #[.pointer (some ⟨bw, 0, none⟩), lv] w fun e w' => e = .returned (.bool true) ∧ WK D E bw sy kb x bv sl w0 w' := by
  have HP : Hid (POK x.p) := hP
  have hl24 := hP.n.ln
  have HJ : Hid (∀ k, k < x.p.js.length → (x.p.js.getD k pj0).st ≤ 6) := fun k hk => (hP.n.js _ (getD_in hk)).st
  obtain ⟨a, c, rfl⟩ := hS.form
  have HS : Hid _ := hS.cells
  have HNE : Hid (∀ g, a = some ⟨g, 0, none⟩ → ¬ E g) := by
    intro g hg
    apply hne
    rw [hg]
    rfl
  have H00 : Hid (WK D E bw sy kb x bv sl w0 w) := h
  have HW0 : Hid (WK D E bw sy kb x bv sl w w) := ⟨h.1, Keep.refl _ _⟩
  clear h hP hS hne
  obtain ⟨n, hn⟩ : ∃ n, n = x.p.js.length := ⟨_, rfl⟩
  rw [← hn] at hl24 HS HJ ⊢
  have HNN : Hid (n = x.p.js.length) := hn
  clear hn
  go_enter Tryz.func47, Tryz.ntmps47
  go_wp2_with fail
  go_loopg [5] (n + 1) (fun r z wr => ∃ (k : Nat), k ≤ n ∧ r = n - k + 1 ∧ z = .int .i64 (k : Int) ∧ Hid (WK D E bw sy kb x bv sl w wr))
  case atStart => exact ⟨0, Nat.zero_le _, rfl, rfl, HW0⟩
  case round =>
    obtain ⟨k, hk, rfl, rfl, HW⟩ := hrel
    by_cases hlt : k < n
    · have hlt' : (k : Int) < (n : Int) := by omega
      obtain ⟨g, rfl, hc, hg, hcell⟩ := HS.out k hlt
      have hgE := HNE.out g rfl
      have HL : Hid (∀ y, WK D E bw sy kb x bv sl w y → y.cell? ⟨g, k * 5, none⟩ = some (.int .i64 ((x.p.js.getD k pj0).st : Int))) := fun y hy => (hy.2.cell hgE).trans (hcell 0 (by omega))
      have hst := HJ.out k hlt
      have HHAS : Hid (hasP x.p (k : Int) = true) := by
        show _ = _
        unfold hasP
        rw [← HNN.out]
        simp
        exact hlt
      have l0 := HL.out _ HW.out
      have HF : Hid (∀ ok, (x.p.js.getD k pj0).st ≠ 2 → finishF x.p (k : Int) ok = (x.p, 12)) := by
        intro ok hne
        unfold finishF
        rw [if_neg (by rw [HHAS.out]; simp), if_pos (by simpa using hne)]
      have HG : Hid (3 ≤ (x.p.js.getD k pj0).st → cancelF x.p (k : Int) = (x.p, 12)) := by
        intro h3
        unfold cancelF
        rw [if_neg (by rw [HHAS.out]; simp), if_pos (by simpa using h3)]
      obtain ⟨j, hj⟩ : ∃ j, j = (x.p.js.getD k pj0).st := ⟨_, rfl⟩
      rw [← hj] at l0 hst HL HF HG
      have c0 := HW.out.c0
      clear hcell hj
      by_cases h2 : j = 2
      · subst h2
        go_wp2_with fail
        go_roundg (n - (k + 1) + 1)
        case measure => omega
        case rel => exact ⟨k + 1, by omega, rfl, by go_num, HW⟩
      · have h2' : ¬ (j : Int) = 2 := by omega
        go_wp2_with fail
        refine (HW.out.finish HP.out (k : Int) true 12 (HF.out _ h2)).mono ?_
        rintro e y1 ⟨rfl, q1⟩
        have H1 : Hid (WK D E bw sy kb x bv sl w y1) := q1
        have c1 := q1.c0
        clear q1 c0 l0
        go_wp2_with fail
        refine (H1.out.finish HP.out (k : Int) false 12 (HF.out _ h2)).mono ?_
        rintro e y2 ⟨rfl, q2⟩
        have H2 : Hid (WK D E bw sy kb x bv sl w y2) := q2
        have c2 := q2.c0
        have l2 := HL.out _ q2
        clear q2 c1 H1
        by_cases h3 : 3 ≤ j
        · have h3' : (3 : Int) ≤ (j : Int) := by omega
          go_wp2_with fail
          refine (H2.out.cancel HP.out (k : Int) 12 (HG.out h3)).mono ?_
          rintro e y3 ⟨rfl, q3⟩
          have H3 : Hid (WK D E bw sy kb x bv sl w y3) := q3
          clear q3 c2 l2
          go_wp2_with fail
          go_roundg (n - (k + 1) + 1)
          case measure => omega
          case rel => exact ⟨k + 1, by omega, rfl, by go_num, H3⟩
        · have h3' : ¬ (3 : Int) ≤ (j : Int) := by omega
          go_wp2_with fail
          go_roundg (n - (k + 1) + 1)
          case measure => omega
          case rel => exact ⟨k + 1, by omega, rfl, by go_num, H2⟩
    · have hlt' : ¬ (k : Int) < (n : Int) := by omega
      go_wp2_with fail
      go_ret
      exact ⟨rfl, H00.out.go HW.out⟩
end Go.Proofs.YtanknpmojblmcabGreatDoor

/-
  The batches that may not be: refusals.
-/
set_option linter.unusedSimpArgs false
set_option linter.unusedVariables false
namespace Go.Proofs.YtanknpmojblmcabGreatDoor
open Go.RowKit

abbrev RfT := List UInt8 × Nat × Nat
def rfC (t : RfT) : List Value := [.string (bs t.1), .int .i64 (t.2.1 : Int), .int .i64 (t.2.2 : Int)]
def flatRf (l : List RfT) : List Value := (l.map rfC).flatten
def rf7 : List RfT := [(rfT 0, 2, 0), (rfT 1, 2, 2), (rfT 2, 2, 31), (rfT 3, 3, 18), (rfT 4, 4, 23), (rfT 5, 6, 29), (rfT 6, 6, 57)]
def rf8 : List RfT := rf7 ++ [(rfT 7, 1, 0)]
def rfs (N : Nat) : List RfT := if N < 8 then rf8 ++ [(rfN (N + 1), 5, 11)] else rf8
theorem flatRf_app (a b : List RfT) : flatRf (a ++ b) = flatRf a ++ flatRf b := by simp [flatRf]
theorem infoRf : (Tryz.prog.info? 110).map (fun i => (i.zero, i.size, i.bytes)) = some (some (.agg #[.string ⟨#[]⟩, .int .i64 0, .int .i64 0]), 3, 32) := by kernel_rfl
theorem rfs_ok {p : PS} (h : RfOK p) : ∀ t ∈ rfs p.nodes, Rfd p t.1 t.2.1 t.2.2 [] := by
  have h8 : ∀ t ∈ rf8, Rfd p t.1 t.2.1 t.2.2 [] := by
    intro t ht
    unfold rf8 rf7 at ht
    simp only [List.cons_append, List.nil_append, List.mem_cons, List.not_mem_nil, or_false] at ht
    rcases ht with rfl | rfl | rfl | rfl | rfl | rfl | rfl | rfl
    · exact rfd_all h 0 (by omega)
    · exact rfd_all h 1 (by omega)
    · exact rfd_all h 2 (by omega)
    · exact rfd_all h 3 (by omega)
    · exact rfd_all h 4 (by omega)
    · exact rfd_all h 5 (by omega)
    · exact rfd_all h 6 (by omega)
    · exact rfd_all h 7 (by omega)
  intro t ht
  unfold rfs at ht
  split at ht
  · rcases List.mem_append.1 ht with q | q
    · exact h8 t q
    · rw [List.mem_singleton.1 q]
      exact rfd_n h (by omega)
  · exact h8 t ht
theorem rfs_len (N : Nat) : (rfs N).length ≤ 9 := by
  unfold rfs rf8 rf7
  split <;> simp
theorem rfs_size (N : Nat) : ∀ t ∈ rfs N, t.1.length ≤ 601 := by
  have h8 : ∀ t ∈ rf8, t.1.length ≤ 601 := by
    intro t ht
    unfold rf8 rf7 at ht
    simp only [List.cons_append, List.nil_append, List.mem_cons, List.not_mem_nil, or_false] at ht
    rcases ht with rfl | rfl | rfl | rfl | rfl | rfl | rfl | rfl
    · decide
    · decide
    · decide
    · decide
    · decide
    · decide
    · decide
    · show (List.replicate 601 (120 : UInt8)).length ≤ 601
      rw [List.length_replicate]
      omega
  intro t ht
  unfold rfs at ht
  split at ht
  · rcases List.mem_append.1 ht with q | q
    · exact h8 t q
    · rw [List.mem_singleton.1 q]
      simp [rfN]
  · exact h8 t ht
theorem rep_more (k : Nat) : bs (List.replicate k 120) ++ ⟨#[120]⟩ = bs (List.replicate (k + 1) 120) := by
  rw [show (⟨#[120]⟩ : ByteArray) = bs [120] from rfl, bs_append, List.replicate_succ']
theorem rfN_bytes (n : Nat) (h : n < 10) : ((⟨#[35, 74, 32, 113, 32, 110, 111, 100, 101, 115, 61]⟩ : ByteArray) ++ bs (dig2 n)) ++ ⟨#[32, 116, 105, 109, 101, 61, 49, 32, 97, 102, 116, 101, 114, 61, 111, 107, 58, 122, 122]⟩ = bs (rfN n) := by
  rw [show (⟨#[35, 74, 32, 113, 32, 110, 111, 100, 101, 115, 61]⟩ : ByteArray) = bs [35, 74, 32, 113, 32, 110, 111, 100, 101, 115, 61] from rfl, show (⟨#[32, 116, 105, 109, 101, 61, 49, 32, 97, 102, 116, 101, 114, 61, 111, 107, 58, 122, 122]⟩ : ByteArray) = bs [32, 116, 105, 109, 101, 61, 49, 32, 97, 102, 116, 101, 114, 61, 111, 107, 58, 122, 122] from rfl, bs_append, bs_append]
  unfold dig2 rfN
  rw [if_pos h]

set_option maxRecDepth 100000 in
set_option maxHeartbeats 8000000 in
theorem kRefusals (N : Nat) (h1 : 1 ≤ N) (h8 : N ≤ 8) (w : World) :
    Calls Tryz.prog 64 #[.int .i64 (N : Int)] w fun e w' => ∃ v, e = .returned v ∧ w'.ownsRow w.heap.size 110 3 v (rfs N).length (flatRf (rfs N)) ∧ Below w.heap.size w w' := by
  obtain ⟨i0, hI0, hz0, hz1, hz2⟩ := info_parts infoRf
  have Y := whole_new w (.cells #[.string ⟨#[]⟩, .int .i64 2, .int .i64 0, .string ⟨#[35, 74]⟩, .int .i64 2, .int .i64 2, .string ⟨#[35, 74, 32, 113, 32, 110, 111, 100, 101, 115, 61, 49, 32, 116, 105, 109, 101, 61, 49, 32, 97, 102, 116, 101, 114, 61, 40, 111, 107, 58, 113]⟩, .int .i64 2, .int .i64 31, .string ⟨#[35, 74, 32, 113, 32, 110, 111, 100, 101, 115, 61, 49, 32, 116, 105, 109, 101, 61, 49, 51]⟩, .int .i64 3, .int .i64 18, .string ⟨#[35, 74, 32, 113, 32, 110, 111, 100, 101, 115, 61, 49, 32, 116, 105, 109, 101, 61, 49, 10, 35, 74, 32, 113, 32, 110, 111, 100, 101, 115, 61, 49, 32, 116, 105, 109, 101, 61, 49]⟩, .int .i64 4, .int .i64 23, .string ⟨#[35, 74, 32, 113, 32, 110, 111, 100, 101, 115, 61, 49, 32, 116, 105, 109, 101, 61, 49, 32, 97, 102, 116, 101, 114, 61, 111, 107, 58, 122, 122]⟩, .int .i64 6, .int .i64 29, .string ⟨#[35, 74, 32, 113, 32, 110, 111, 100, 101, 115, 61, 49, 32, 116, 105, 109, 101, 61, 49, 10, 35, 74, 32, 114, 32, 110, 111, 100, 101, 115, 61, 49, 32, 116, 105, 109, 101, 61, 49, 32, 97, 102, 116, 101, 114, 61, 115, 105, 110, 103, 108, 101, 38, 97, 110, 121, 58, 113, 91, 48, 93]⟩, .int .i64 6, .int .i64 57] 110 (0, 0))
  have HB1 : Below w.heap.size w (w.alloc (.cells #[.string ⟨#[]⟩, .int .i64 2, .int .i64 0, .string ⟨#[35, 74]⟩, .int .i64 2, .int .i64 2, .string ⟨#[35, 74, 32, 113, 32, 110, 111, 100, 101, 115, 61, 49, 32, 116, 105, 109, 101, 61, 49, 32, 97, 102, 116, 101, 114, 61, 40, 111, 107, 58, 113]⟩, .int .i64 2, .int .i64 31, .string ⟨#[35, 74, 32, 113, 32, 110, 111, 100, 101, 115, 61, 49, 32, 116, 105, 109, 101, 61, 49, 51]⟩, .int .i64 3, .int .i64 18, .string ⟨#[35, 74, 32, 113, 32, 110, 111, 100, 101, 115, 61, 49, 32, 116, 105, 109, 101, 61, 49, 10, 35, 74, 32, 113, 32, 110, 111, 100, 101, 115, 61, 49, 32, 116, 105, 109, 101, 61, 49]⟩, .int .i64 4, .int .i64 23, .string ⟨#[35, 74, 32, 113, 32, 110, 111, 100, 101, 115, 61, 49, 32, 116, 105, 109, 101, 61, 49, 32, 97, 102, 116, 101, 114, 61, 111, 107, 58, 122, 122]⟩, .int .i64 6, .int .i64 29, .string ⟨#[35, 74, 32, 113, 32, 110, 111, 100, 101, 115, 61, 49, 32, 116, 105, 109, 101, 61, 49, 10, 35, 74, 32, 114, 32, 110, 111, 100, 101, 115, 61, 49, 32, 116, 105, 109, 101, 61, 49, 32, 97, 102, 116, 101, 114, 61, 115, 105, 110, 103, 108, 101, 38, 97, 110, 121, 58, 113, 91, 48, 93]⟩, .int .i64 6, .int .i64 57] 110)) := (Below.refl _ w).alloc (Nat.le_refl _) _
  have hrow : (w.alloc (.cells #[.string ⟨#[]⟩, .int .i64 2, .int .i64 0, .string ⟨#[35, 74]⟩, .int .i64 2, .int .i64 2, .string ⟨#[35, 74, 32, 113, 32, 110, 111, 100, 101, 115, 61, 49, 32, 116, 105, 109, 101, 61, 49, 32, 97, 102, 116, 101, 114, 61, 40, 111, 107, 58, 113]⟩, .int .i64 2, .int .i64 31, .string ⟨#[35, 74, 32, 113, 32, 110, 111, 100, 101, 115, 61, 49, 32, 116, 105, 109, 101, 61, 49, 51]⟩, .int .i64 3, .int .i64 18, .string ⟨#[35, 74, 32, 113, 32, 110, 111, 100, 101, 115, 61, 49, 32, 116, 105, 109, 101, 61, 49, 10, 35, 74, 32, 113, 32, 110, 111, 100, 101, 115, 61, 49, 32, 116, 105, 109, 101, 61, 49]⟩, .int .i64 4, .int .i64 23, .string ⟨#[35, 74, 32, 113, 32, 110, 111, 100, 101, 115, 61, 49, 32, 116, 105, 109, 101, 61, 49, 32, 97, 102, 116, 101, 114, 61, 111, 107, 58, 122, 122]⟩, .int .i64 6, .int .i64 29, .string ⟨#[35, 74, 32, 113, 32, 110, 111, 100, 101, 115, 61, 49, 32, 116, 105, 109, 101, 61, 49, 10, 35, 74, 32, 114, 32, 110, 111, 100, 101, 115, 61, 49, 32, 116, 105, 109, 101, 61, 49, 32, 97, 102, 116, 101, 114, 61, 115, 105, 110, 103, 108, 101, 38, 97, 110, 121, 58, 113, 91, 48, 93]⟩, .int .i64 6, .int .i64 57] 110)).ownsRow w.heap.size 110 3 (.slice (some ⟨w.heap.size, 0, none⟩) 7 7) 7 (flatRf rf7) := ⟨rfl, Or.inr ⟨w.heap.size, 7, _, rfl, Nat.le_refl _, Y, by omega, by unfold maxLen; omega, rfl, rfl⟩⟩
  clear Y
  go_enter Tryz.func64, Tryz.ntmps64
  go_wp2_with fail
  obtain ⟨g1, hg1⟩ : ∃ g1, g1 = w.heap.size := ⟨_, rfl⟩
  have hgw : w.heap.size ≤ g1 := by omega
  rw [← hg1] at hrow
  generalize w.alloc (.cells #[.string ⟨#[]⟩, .int .i64 2, .int .i64 0, .string ⟨#[35, 74]⟩, .int .i64 2, .int .i64 2, .string ⟨#[35, 74, 32, 113, 32, 110, 111, 100, 101, 115, 61, 49, 32, 116, 105, 109, 101, 61, 49, 32, 97, 102, 116, 101, 114, 61, 40, 111, 107, 58, 113]⟩, .int .i64 2, .int .i64 31, .string ⟨#[35, 74, 32, 113, 32, 110, 111, 100, 101, 115, 61, 49, 32, 116, 105, 109, 101, 61, 49, 51]⟩, .int .i64 3, .int .i64 18, .string ⟨#[35, 74, 32, 113, 32, 110, 111, 100, 101, 115, 61, 49, 32, 116, 105, 109, 101, 61, 49, 10, 35, 74, 32, 113, 32, 110, 111, 100, 101, 115, 61, 49, 32, 116, 105, 109, 101, 61, 49]⟩, .int .i64 4, .int .i64 23, .string ⟨#[35, 74, 32, 113, 32, 110, 111, 100, 101, 115, 61, 49, 32, 116, 105, 109, 101, 61, 49, 32, 97, 102, 116, 101, 114, 61, 111, 107, 58, 122, 122]⟩, .int .i64 6, .int .i64 29, .string ⟨#[35, 74, 32, 113, 32, 110, 111, 100, 101, 115, 61, 49, 32, 116, 105, 109, 101, 61, 49, 10, 35, 74, 32, 114, 32, 110, 111, 100, 101, 115, 61, 49, 32, 116, 105, 109, 101, 61, 49, 32, 97, 102, 116, 101, 114, 61, 115, 105, 110, 103, 108, 101, 38, 97, 110, 121, 58, 113, 91, 48, 93]⟩, .int .i64 6, .int .i64 57] 110) = y1 at *
  simp only [← hg1]
  replace hrow := ownsRow_base hrow hgw
  clear hg1
  have HX7 : Hid (flatRf rf7 = flatRf rf7) := rfl
  obtain ⟨F7, hF7⟩ : ∃ F7, F7 = flatRf rf7 := ⟨_, rfl⟩
  rw [← hF7] at hrow
  have HF7 : Hid (F7 = flatRf rf7) := hF7
  clear hF7 HX7
  go_loopg [4, 5] 602 (fun r tv z wr => ∃ (k : Nat), k ≤ 601 ∧ r = 601 - k + 1 ∧ tv = .string (bs (List.replicate k 120)) ∧ z = .int .i64 (k : Int) ∧ wr = y1)
  case atStart => exact ⟨0, by omega, rfl, rfl, rfl, rfl⟩
  case round =>
    obtain ⟨k, hk, rfl, rfl, rfl, rfl⟩ := hrel
    have hsz := bs_size (List.replicate k 120)
    rw [List.length_replicate] at hsz
    by_cases hlt : k < 601
    · have hlt' : (k : Int) ≤ 600 := by omega
      have HM : Hid (bs (List.replicate k 120) ++ ⟨#[120]⟩ = bs (List.replicate (k + 1) 120)) := rep_more k
      have sA : (ByteArray.mk #[120]).size = 1 := rfl
      generalize bs (List.replicate k 120) = tb at *
      have f1 : ¬ 9223372036854775807 < tb.size + (ByteArray.mk #[120]).size := by rw [hsz, sA]; omega
      go_wp2_with fail
      go_roundg (601 - (k + 1) + 1)
      case measure => omega
      case rel => exact ⟨k + 1, by omega, rfl, by rw [HM.out], by go_num, rfl⟩
    · have hlt' : ¬ (k : Int) ≤ 600 := by omega
      obtain rfl : k = 601 := by omega
      have HT : Hid (bs (List.replicate 601 120) = bs (rfT 7)) := rfl
      rw [HT.out] at *
      clear hsz
      obtain ⟨tb, htb⟩ : ∃ tb, tb = bs (rfT 7) := ⟨_, rfl⟩
      rw [← htb]
      have HTB : Hid (tb = bs (rfT 7)) := htb
      clear htb HT
      have hs1 := HB1.size
      go_wp2_with (at_builtin; refine wpList_append_lies _ rfl _ _ 107 rfl w.heap.size 110 i0 (.agg #[.string ⟨#[]⟩, .int .i64 0, .int .i64 0]) 3 32 Tryz.underlying107 hI0 hz0 hz1 hz2 rfl (by decide) _ 7 _ rfl (hrow.alloc _) ⟨wr.heap.size, 0, none⟩ 1 1 [.string tb, .int .i64 1, .int .i64 0] rfl rfl ?c1 ?c2 (by decide) ?c3 ?c4 ?c5 _ rfl ?_)

      case c2 => first | exact ⟨rfl, rfl, rfl⟩ | (intro u hu; simp at hu; rcases hu with rfl | rfl | rfl <;> rfl)
      case c3 => unfold maxLen; omega

      case c5 => first | omega | (simp; omega) | simp
      intro g4 cap4 x4 hown4 hgrow4 hat4 hlt4
      have HB4 : Below w.heap.size w x4 := by
        refine (HB1.alloc HB1.size _).trans ⟨hgrow4.os, hgrow4.tape, hgrow4.output, hgrow4.size, ?_⟩
        intro q hq
        refine hgrow4.block q (by have := HB1.size; simp; omega) ?_
        intro e
        have := (hrow.lt q e.symm).1
        omega
      have hown5 : x4.ownsRow w.heap.size 110 3 (.slice (some ⟨g4, 0, none⟩) 8 cap4) 8 (flatRf rf8) := by
        have e : flatRf rf8 = F7 ++ [.string tb, .int .i64 1, .int .i64 0] := by
          rw [HF7.out, HTB.out]
          unfold rf8
          rw [flatRf_app]
          rfl
        rw [e]
        exact hown4
      clear hown4 hgrow4 hat4 hrow HB1
      by_cases hN : N < 8
      · have hN' : (N : Int) < 8 := by omega
        have e1 : (N : Int) + 1 = ((N + 1 : Nat) : Int) := by omega
        have HR : Hid (rfs N = rf8 ++ [(rfN (N + 1), 5, 11)]) := by show _ = _; unfold rfs; rw [if_pos hN]
        obtain ⟨M, hM⟩ : ∃ M, M = N + 1 := ⟨_, rfl⟩
        rw [← hM] at e1 HR
        have hM9 : M ≤ 8 := by omega
        have HBY : Hid (_ = bs (rfN M)) := rfN_bytes M (by omega)
        have HLN : Hid ((rfN M).length = 31) := rfl
        obtain ⟨F8, hF8⟩ : ∃ F8, F8 = flatRf rf8 := ⟨_, rfl⟩
        rw [← hF8] at hown5
        have HF8 : Hid (F8 = flatRf rf8) := hF8
        clear hF8 hM
        have sA : (⟨#[35, 74, 32, 113, 32, 110, 111, 100, 101, 115, 61]⟩ : ByteArray).size = 11 := rfl
        have sB : (⟨#[32, 116, 105, 109, 101, 61, 49, 32, 97, 102, 116, 101, 114, 61, 111, 107, 58, 122, 122]⟩ : ByteArray).size = 19 := rfl
        have hsd := bs_size (dig2 M)
        have hd1 : (dig2 M).length = 1 := by unfold dig2; rw [if_pos (by omega)]; rfl
        rw [hd1] at hsd
        have hs4 := HB4.size
        go_wp2_with fail
        refine (itoa_any M (by omega) _).mono ?_
        rintro e x5 ⟨rfl, rfl⟩
        generalize bs (dig2 M) = db at *
        have f1 : ¬ 9223372036854775807 < (⟨#[35, 74, 32, 113, 32, 110, 111, 100, 101, 115, 61]⟩ : ByteArray).size + db.size := by rw [sA, hsd]; omega
        have hs2 : ((⟨#[35, 74, 32, 113, 32, 110, 111, 100, 101, 115, 61]⟩ : ByteArray) ++ db).size = 12 := by rw [ByteArray.size_append, sA, hsd]
        have f2 : ¬ 9223372036854775807 < ((⟨#[35, 74, 32, 113, 32, 110, 111, 100, 101, 115, 61]⟩ : ByteArray) ++ db).size + (⟨#[32, 116, 105, 109, 101, 61, 49, 32, 97, 102, 116, 101, 114, 61, 111, 107, 58, 122, 122]⟩ : ByteArray).size := by rw [hs2, sB]; omega
        go_wp2_with (at_builtin; refine wpList_append_lies _ rfl _ _ 107 rfl w.heap.size 110 i0 (.agg #[.string ⟨#[]⟩, .int .i64 0, .int .i64 0]) 3 32 Tryz.underlying107 hI0 hz0 hz1 hz2 rfl (by decide) _ 8 _ rfl (hown5.alloc _) ⟨x5.heap.size, 0, none⟩ 1 1 [.string (((⟨#[35, 74, 32, 113, 32, 110, 111, 100, 101, 115, 61]⟩ : ByteArray) ++ db) ++ (⟨#[32, 116, 105, 109, 101, 61, 49, 32, 97, 102, 116, 101, 114, 61, 111, 107, 58, 122, 122]⟩ : ByteArray)), .int .i64 5, .int .i64 11] rfl rfl ?d1 ?d2 (by decide) ?d3 ?d4 ?d5 _ rfl ?_)
        case d1 => exact World.news_of_block (cs := #[.string (((⟨#[35, 74, 32, 113, 32, 110, 111, 100, 101, 115, 61]⟩ : ByteArray) ++ db) ++ (⟨#[32, 116, 105, 109, 101, 61, 49, 32, 97, 102, 116, 101, 114, 61, 111, 107, 58, 122, 122]⟩ : ByteArray)), .int .i64 5, .int .i64 11]) (t := 110) (fr := (0, 0)) (whole_new x5 (.cells #[.string (((⟨#[35, 74, 32, 113, 32, 110, 111, 100, 101, 115, 61]⟩ : ByteArray) ++ db) ++ (⟨#[32, 116, 105, 109, 101, 61, 49, 32, 97, 102, 116, 101, 114, 61, 111, 107, 58, 122, 122]⟩ : ByteArray)), .int .i64 5, .int .i64 11] 110 (0, 0)))
        case d2 => first | exact ⟨rfl, rfl, rfl⟩ | (intro u hu; simp at hu; rcases hu with rfl | rfl | rfl <;> rfl)
        case d3 => unfold maxLen; omega
        case d4 => omega
        case d5 => first | omega | (simp; omega) | simp
        intro g6 cap6 x6 hown6 hgrow6 hat6 hlt6
        have HB6 : Below w.heap.size w x6 := by
          refine (HB4.alloc HB4.size _).trans ⟨hgrow6.os, hgrow6.tape, hgrow6.output, hgrow6.size, ?_⟩
          intro q hq
          refine hgrow6.block q (by have := HB4.size; simp; omega) ?_
          intro e
          have := (hown5.lt q e.symm).1
          omega
        have hown7 : x6.ownsRow w.heap.size 110 3 (.slice (some ⟨g6, 0, none⟩) 9 cap6) 9 (flatRf (rf8 ++ [(rfN M, 5, 11)])) := by
          rw [flatRf_app, ← HF8.out]
          have e : flatRf [(rfN M, 5, 11)] = [.string ((⟨#[35, 74, 32, 113, 32, 110, 111, 100, 101, 115, 61]⟩ ++ db) ++ ⟨#[32, 116, 105, 109, 101, 61, 49, 32, 97, 102, 116, 101, 114, 61, 111, 107, 58, 122, 122]⟩), .int .i64 5, .int .i64 11] := by
            rw [HBY.out]
            rfl
          rw [e]
          exact hown6
        clear hown6 hgrow6 hat6 hown5 HB4
        go_wp2_with fail
        go_ret
        rw [HR.out]
        exact ⟨_, rfl, hown7, HB6⟩
      · have hN' : ¬ (N : Int) < 8 := by omega
        have HR : Hid (rfs N = rf8) := by show _ = _; unfold rfs; rw [if_neg hN]
        go_wp2_with fail
        go_ret
        rw [HR.out]
        exact ⟨_, rfl, hown5, HB4⟩
end Go.Proofs.YtanknpmojblmcabGreatDoor

/-
  A world's walk: timely, within.
-/
set_option linter.unusedSimpArgs false
set_option linter.unusedVariables false
namespace Go.Proofs.YtanknpmojblmcabGreatDoor
open Go.RowKit

variable {D E : Nat → Prop} {bw sy kb : Nat} {x : WS} {gv jv qv bv : Value} {sl : Nat → Sl} {w w' : World}

set_option maxRecDepth 100000 in
set_option maxHeartbeats 4000000 in
theorem wTimely (nodes : Nat) (now : Int) (j : PJ) (w : World) (ht : Tmly nodes now j) (hl : j.st = 1 → now < j.sa) (h0 : 0 ≤ now) (h6 : j.st ≤ 6) (h12 : j.tm ≤ 12) (s1 : -1 ≤ j.sa) (s2 : j.sa ≤ 6000) :
    Calls Tryz.prog 42 #[.agg #[.int .i64 (j.st : Int), .int .i64 (j.nd : Int), .int .i64 (j.tm : Int), .int .i64 j.sa, .int .i64 j.en], .int .i64 now] w fun e w' => e = .returned (.bool true) ∧ Below w.heap.size w w' := by
  have Y := whole_new w (.cells #[.int .i64 (j.st : Int), .int .i64 (j.nd : Int), .int .i64 (j.tm : Int), .int .i64 j.sa, .int .i64 j.en] 35 (0, 0))
  have HB : Hid (Below w.heap.size w (w.alloc (.cells #[.int .i64 (j.st : Int), .int .i64 (j.nd : Int), .int .i64 (j.tm : Int), .int .i64 j.sa, .int .i64 j.en] 35))) := (Below.refl _ w).alloc (Nat.le_refl _) _
  obtain ⟨t1, t2, t30, t31, t32, t33, t34, t35, t36⟩ := ht
  unfold overJ at t32 t33 t34 t35
  obtain ⟨cd, st, nd, tm, sa, en⟩ := j
  dsimp only at *
  have htI : (tm : Int) ≤ 12 := by omega
  have ht0 : (0 : Int) ≤ (tm : Int) := by omega
  go_enter Tryz.func42, Tryz.ntmps42
  go_upto_region 1 with fail
  generalize w.alloc (.cells #[.int .i64 (st : Int), .int .i64 (nd : Int), .int .i64 (tm : Int), .int .i64 sa, .int .i64 en] 35) = y at *
  obtain ⟨sb, hsb⟩ : ∃ sb, sb = w.heap.size := ⟨_, rfl⟩
  rw [← hsb] at Y ⊢
  clear hsb
  have a0 := whole_cell Y 0; have a2 := whole_cell Y 2; have a3 := whole_cell Y 3; have a4 := whole_cell Y 4
  simp at a0 a2 a3 a4
  have hst : st = 0 ∨ st = 1 ∨ st = 2 ∨ st = 3 ∨ st = 4 ∨ st = 5 ∨ st = 6 := by omega
  rcases hst with rfl | rfl | rfl | rfl | rfl | rfl | rfl
  · obtain ⟨rfl, rfl⟩ := t30 rfl
    clear t30 t31 t32 t33 t34 t35 t36 hl
    go_wp2_with fail
    go_ret
    exact ⟨rfl, HB.out⟩
  · obtain ⟨q1, rfl⟩ := t31 rfl
    have q2 := hl rfl
    have q3 : 0 ≤ sa := by omega
    have q4 : ¬ sa ≤ -1 := by omega
    clear t30 t31 t32 t33 t34 t35 t36 hl
    go_wp2_with fail
    go_ret
    exact ⟨rfl, HB.out⟩
  · obtain ⟨q1, q2, q3, rfl⟩ := t32 rfl
    have q4 : ¬ sa ≤ -1 := by omega
    clear t30 t31 t32 t33 t34 t35 t36 hl
    go_wp2_with fail
    go_ret
    exact ⟨rfl, HB.out⟩
  · obtain ⟨q1, q2, q3, q4⟩ := t33 rfl
    have q5 : en ≤ sa + (tm : Int) := by omega
    clear t30 t31 t32 t33 t34 t35 t36 hl
    go_wp2_with fail
    go_ret
    exact ⟨rfl, HB.out⟩
  · obtain ⟨q1, q2, q3, q4⟩ := t34 rfl
    clear t30 t31 t32 t33 t34 t35 t36 hl
    go_wp2_with fail
    go_ret
    exact ⟨rfl, HB.out⟩
  · obtain ⟨q1, q2, q3⟩ := t35 rfl
    clear t30 t31 t32 t33 t34 t35 t36 hl
    rcases q3 with rfl | ⟨q3, q4, q5⟩
    · go_wp2_with fail
      go_ret
      exact ⟨rfl, HB.out⟩
    · have q6 : en ≤ sa + (tm : Int) := by omega
      have q7 : (sa == -1) = false := by rw [beq_eq_false_iff_ne]; omega
      go_wp2_with fail
      go_ret
      exact ⟨rfl, HB.out⟩
  · obtain ⟨rfl, q2, q3⟩ := t36 rfl
    clear t30 t31 t32 t33 t34 t35 t36 hl
    go_wp2_with fail
    go_ret
    exact ⟨rfl, HB.out⟩

theorem free_run (nodes : Nat) (js : List PJ) : ∀ n, freeN nodes js n = (nodes : Int) - ((runN js n : Nat) : Int) := by
  intro n
  induction n with
  | zero => simp [freeN, runN]
  | succ n ih =>
    unfold freeN runN
    rw [ih]
    split <;> simp <;> omega
theorem run_bd (js : List PJ) (h : ∀ k, (js.getD k pj0).nd ≤ 8) : ∀ n, runN js n ≤ 8 * n := by
  intro n
  induction n with
  | zero => simp [runN]
  | succ n ih =>
    unfold runN
    have := h n
    split <;> omega

set_option maxRecDepth 100000 in
set_option maxHeartbeats 4000000 in
theorem wWithin (h : WM D E bw sy kb x gv jv qv bv sl w) (hw : WOK x) (lv : Value) (hS : Sts lv x.p.js w) :
    Calls Tryz.prog 20 #[.pointer (some ⟨bw, 0, none⟩), lv] w fun e w' => e = .returned (.bool true) ∧ Below w.heap.size w w' := by
  obtain ⟨la, lc, rfl⟩ := hS.form
  have hst := hw.wi.st
  have hl24 := hst.ok.n.ln
  have hn0 := hst.f.n0
  have hn3 := hw.hi
  have hrun := run_le hst
  have hn8 := hw.n8
  have HN : Hid (NOK x.p) := hst.ok.n
  have HFR : Hid (freeF x.p.nodes x.p.js = (x.p.nodes : Int) - ((runN x.p.js x.p.js.length : Nat) : Int)) := free_run _ _ _
  have HTM : Hid (∀ k, k < x.p.js.length → Tmly x.p.nodes x.p.now (x.p.js.getD k pj0) ∧ ((x.p.js.getD k pj0).st = 1 → x.p.now < (x.p.js.getD k pj0).sa) ∧ (x.p.js.getD k pj0).st ≤ 6 ∧ (x.p.js.getD k pj0).tm ≤ 12 ∧ -1 ≤ (x.p.js.getD k pj0).sa ∧ (x.p.js.getD k pj0).sa ≤ 6000 ∧ (x.p.js.getD k pj0).nd ≤ 8) := by
    intro k hk
    have j := hst.ok.n.js _ (getD_in hk)
    have s := hst.soon hk
    exact ⟨hst.f.t k hk, hst.l k hk, j.st, j.tm, j.lo, by omega, j.nd⟩
  have HRB : Hid (∀ n, runN x.p.js n ≤ 8 * n) := by
    refine run_bd _ ?_
    intro k
    by_cases hk : k < x.p.js.length
    · exact (HTM.out k hk).2.2.2.2.2.2
    · rw [show x.p.js.getD k pj0 = pj0 from by simp [hk]]; simp [pj0]
  have HW : Hid (WM D E bw sy kb x gv jv qv bv sl w) := h
  have hbw := whole_lt h.wo
  have CELL : ∀ k, k < x.p.js.length → ∃ g, la = some ⟨g, 0, none⟩ ∧ x.p.js.length ≤ lc ∧ g < w.heap.size ∧ ∀ i, i < 5 → w.cell? ⟨g, k * 5 + i, none⟩ = (stC (x.p.js.getD k pj0))[i]? := by
    intro k hk
    rcases hS with ⟨_, hn⟩ | ⟨g, cap, hv, hc, hg, hcell⟩
    · rw [hn] at hk; simp at hk
    · injection hv with e1 e2 e3
      subst e3
      exact ⟨g, e1, hc, hg, fun i hi => hcell k hk i hi⟩
  have HCELL : Hid _ := CELL
  clear CELL h hw hst hS
  obtain ⟨N, hN⟩ : ∃ N, N = x.p.js.length := ⟨_, rfl⟩
  rw [← hN] at hl24 hrun ⊢
  have HNN : Hid (N = x.p.js.length) := hN
  clear hN
  go_enter Tryz.func20, Tryz.ntmps20
  go_wp2_with fail
  go_loopg [5, 6] (N + 1) (fun r n z wr => ∃ (k : Nat), k ≤ N ∧ r = N - k + 1 ∧ z = .int .i64 (k : Int) ∧ n = .int .i64 ((runN x.p.js k : Nat) : Int) ∧ Below w.heap.size w wr)
  case atStart => exact ⟨0, Nat.zero_le _, rfl, rfl, rfl, Below.refl _ _⟩
  case round =>
    obtain ⟨k, hk, rfl, rfl, rfl, HB⟩ := hrel
    by_cases hlt : k < N
    · have hlt' : (k : Int) < (N : Int) := by omega
      have hlt2 : k < x.p.js.length := by rw [← HNN.out]; exact hlt
      obtain ⟨g, rfl, hc, hg, hcell⟩ := HCELL.out k hlt2
      rw [← HNN.out] at hc
      obtain ⟨u1, u2, u3, u4, u5, u6, u7⟩ := HTM.out k hlt2
      have hrb := HRB.out k
      have HR1 : Hid (runN x.p.js (k + 1) = runN x.p.js k + (if (x.p.js.getD k pj0).st = 2 then (x.p.js.getD k pj0).nd else 0)) := rfl
      have l0 := (HB.cell (p := ⟨g, k * 5 + 0, none⟩) hg).trans (hcell 0 (by omega)); have l1 := (HB.cell (p := ⟨g, k * 5 + 1, none⟩) hg).trans (hcell 1 (by omega)); have l2 := (HB.cell (p := ⟨g, k * 5 + 2, none⟩) hg).trans (hcell 2 (by omega)); have l3 := (HB.cell (p := ⟨g, k * 5 + 3, none⟩) hg).trans (hcell 3 (by omega)); have l4 := (HB.cell (p := ⟨g, k * 5 + 4, none⟩) hg).trans (hcell 4 (by omega))
      obtain ⟨j, hj⟩ : ∃ j, j = x.p.js.getD k pj0 := ⟨_, rfl⟩
      rw [← hj] at u1 u2 u3 u4 u5 u6 u7 HR1 l0 l1 l2 l3 l4
      simp [stC] at l0 l1 l2 l3 l4
      have HT1 : Hid (Tmly x.p.nodes x.p.now j) := u1
      have HT2 : Hid (j.st = 1 → x.p.now < j.sa) := u2
      have c2 := (HB.cell (p := ⟨bw, 2, none⟩) hbw).trans HW.out.c.2.2.1
      clear hcell hj hlt2 u1 u2
      obtain ⟨rk, hrk⟩ : ∃ rk, rk = runN x.p.js k := ⟨_, rfl⟩
      rw [← hrk] at hrb HR1 ⊢
      clear hrk
      have rkI : (rk : Int) ≤ 200 := by omega
      have ndI : (j.nd : Int) ≤ 8 := by omega
      go_upto_if 22 with fail
      go_cut [5] (fun s5 wx => s5 = .int .i64 ((runN x.p.js (k + 1) : Nat) : Int) ∧ wx = wr)
      case first =>
        by_cases hs2 : j.st = 2
        · have HX : Hid (runN x.p.js (k + 1) = rk + j.nd) := by show _ = _; rw [HR1.out, if_pos hs2]
          have hs2' : ((j.st : Int) == 2) = true := by rw [hs2]; rfl
          have hs2n : (j.st : Int) = 2 := by omega
          clear HR1
          go_wp2_with fail
          go_meet
          case rel => exact ⟨by rw [HX.out]; go_num, rfl⟩
        · have HX : Hid (runN x.p.js (k + 1) = rk) := by show _ = _; rw [HR1.out, if_neg hs2]; rfl
          have hs2' : ((j.st : Int) == 2) = false := by rw [beq_eq_false_iff_ne]; omega
          clear HR1
          go_wp2_with fail
          go_meet
          case rel => exact ⟨by rw [HX.out], rfl⟩
      case rest =>
        obtain ⟨rfl, rfl⟩ := hcut
        rename World => wr
        clear HR1
        go_upto_region 7 with fail
        go_cut [7] (fun s7 wx => s7 = .bool true ∧ Hid (Below wr.heap.size wr wx))
        case first =>
          go_region_with (go_at_call 42; refine (wTimely x.p.nodes x.p.now j _ HT1.out HT2.out hn0 u3 u4 u5 u6).mono ?_; rintro e y1 ⟨rfl, hY1⟩; have BB : Hid (Below wr.heap.size wr y1) := (Below.refl _ wr).drew.trans hY1)
          all_goals
            go_wp2_with fail
            go_meet
            case rel => exact ⟨rfl, BB⟩
        case rest =>
          obtain ⟨rfl, HB2⟩ := hcut
          rename World => y1
          have HB3 := HB.trans (HB2.out.mono HB.size)
          clear l0 l1 l2 l3 l4 c2 HB HB2
          go_wp2_with fail
          go_roundg (N - (k + 1) + 1)
          case measure => omega
          case rel => exact ⟨k + 1, by omega, rfl, by go_num, rfl, HB3⟩
    · have hlt' : ¬ (k : Int) < (N : Int) := by omega
      have hke : k = N := by omega
      subst hke
      have HW1 : Hid (WM D E bw sy kb x gv jv qv bv sl wr) := HW.out.below HB
      have c0 := HW1.out.c.1
      have HFR2 : Hid (freeF x.p.nodes x.p.js = (x.p.nodes : Int) - ((runN x.p.js k : Nat) : Int)) := by show _ = _; rw [HFR.out, HNN.out]
      go_wp2_with fail
      refine (syClock HW1.out.sm HN.out).mono ?_
      rintro e y1 ⟨he, hY1⟩
      rw [HFR2.out] at he
      have HB3 := HB.trans (hY1.mono HB.size)
      have HW2 : Hid (WM D E bw sy kb x gv jv qv bv sl y1) := HW1.out.below hY1
      have c1 := HW2.out.c.2.1
      obtain ⟨rk, hrk⟩ : ∃ rk, rk = runN x.p.js k := ⟨_, rfl⟩
      rw [← hrk] at he hrun ⊢
      clear hrk hY1 HFR HFR2 c0
      subst he
      have hrI : (rk : Int) ≤ (x.p.nodes : Int) := by omega
      have hnI : (x.p.nodes : Int) ≤ 8 := by omega
      generalize x.p.nodes = nn at *
      generalize x.p.now = tn at *
      go_wp2_with fail
      go_ret
      exact ⟨rfl, HB3⟩
end Go.Proofs.YtanknpmojblmcabGreatDoor

/-
  A world's walk: Within.
-/
set_option linter.unusedSimpArgs false
set_option linter.unusedVariables false
namespace Go.Proofs.YtanknpmojblmcabGreatDoor
open Go.RowKit

/-- Where the moves lie. -/
theorem IsMvs.at_ {w : World} {a : Option Addr} {len cap : Nat} (h : IsMvs w a len cap) {k : Nat} (hk : k < len) : ∃ (b off : Nat) (m : Mv), a = some ⟨b, off, none⟩ ∧ len ≤ cap ∧ cap ≤ maxLen ∧ b < w.heap.size ∧ MvOK m ∧ w.cell? ⟨b, off + k * 4, none⟩ = some (.int .i64 m.kind) ∧ w.cell? ⟨b, off + k * 4 + 1, none⟩ = some (.int .i64 m.a) ∧ w.cell? ⟨b, off + k * 4 + 2, none⟩ = some (.int .i64 m.b) ∧ w.cell? ⟨b, off + k * 4 + 3, none⟩ = some (.string m.s) := by
  rcases h with ⟨_, rfl, _⟩ | ⟨x, rfl, hl, hm, hc⟩
  · omega
  · obtain ⟨m, m0, h1, h2, h3, h4⟩ := hc k hk
    obtain ⟨b, off, spot⟩ := x
    have hspot : spot = none := by
      have := World.cell?_spot h1
      unfold Addr.add at this
      split at this
      · exact this
      · rename_i hz
        obtain ⟨n0, _, g1, -⟩ := hc 0 (by omega)
        simpa [Addr.add] using World.cell?_spot g1
    subst hspot
    have e1 : (⟨b, off, none⟩ : Addr).add (k * 4) = ⟨b, off + k * 4, none⟩ := by unfold Addr.add; split <;> simp_all
    have e2 : ∀ j, 0 < j → (⟨b, off + k * 4, none⟩ : Addr).add j = ⟨b, off + k * 4 + j, none⟩ := by intro j hj; unfold Addr.add; split <;> simp_all
    rw [e1] at h1 h2 h3 h4
    rw [e2 _ (by omega)] at h2 h3 h4
    exact ⟨b, off, m, rfl, hl, hm, World.block_lt_of_cell? w _ h1, m0, h1, h2, h3, h4⟩
theorem IsMvs.cap_ {w : World} {a : Option Addr} {len cap : Nat} (h : IsMvs w a len cap) : len ≤ maxLen := by
  rcases h with ⟨_, rfl, _⟩ | ⟨x, rfl, hl, hm, hc⟩
  · exact Nat.zero_le _
  · omega
theorem Keep.low {n : Nat} {w w' : World} (h : Keep (fun j => n ≤ j) w w') : Below n w w' := ⟨h.os, h.tape, h.output, h.size, fun k hk => h.block k (by omega)⟩

set_option maxRecDepth 100000 in
set_option maxHeartbeats 8000000 in
theorem walk_within (c : Int) (hc1 : -9223372036854775808 ≤ c) (hc2 : c ≤ 9223372036854775807) (a : Option Addr) (len cap : Nat) (w : World) (hM : IsMvs w a len cap) :
    Calls Tryz.prog 9 #[.int .i64 c, .slice a len cap, .int .i64 2] w fun e w' => e = .returned (.bool true) ∧ Below w.heap.size w w' := by
  have hcap := hM.cap_
  unfold maxLen at hcap
  have HM : Hid (IsMvs w a len cap) := hM
  clear hM
  go_enter Tryz.func9, Tryz.ntmps9
  go_wp2_with fail
  refine (wBegin c hc1 hc2 w).mono ?_
  rintro e x1 ⟨bw, sy, kb, rfl, hW, hB⟩
  have hN : pikD c % 8 < 8 := Nat.mod_lt _ (by omega)
  have HW0 : Hid (WMe (fun j => w.heap.size ≤ j) bw sy ⟨newP (1 + pikD c % 8), [], 0⟩ x1) := ⟨_, _, _, _, _, _, _, hW⟩
  have HK0 : Hid (WOK ⟨newP (1 + pikD c % 8), [], 0⟩) := new_wok _ (by omega) (by omega)
  have HB0 : Hid (Below w.heap.size w x1) := hB
  clear hW hB hN
  go_wp2_with fail
  go_loopg [11] (len + 1) (fun r z wr => ∃ (k : Nat) (x : WS), k ≤ len ∧ r = len - k + 1 ∧ z = .int .i64 (k : Int) ∧ Hid (WOK x) ∧ Hid (WMe (fun j => w.heap.size ≤ j) bw sy x wr) ∧ Hid (Below w.heap.size w wr))
  case atStart => exact ⟨0, _, Nat.zero_le _, rfl, rfl, HK0, HW0, HB0⟩
  case round =>
    obtain ⟨k, x, hk, rfl, rfl, HK, HW, HB⟩ := hrel
    by_cases hlt : k < len
    · have hlt' : (k : Int) < (len : Int) := by omega
      obtain ⟨b, off, m, rfl, hl, hm, hbl, hmo, h1, h2, h3, h4⟩ := HM.out.at_ hlt
      replace h1 := (HB.out.cell (p := ⟨b, off + k * 4, none⟩) hbl).trans h1
      replace h2 := (HB.out.cell (p := ⟨b, off + k * 4 + 1, none⟩) hbl).trans h2
      replace h3 := (HB.out.cell (p := ⟨b, off + k * 4 + 2, none⟩) hbl).trans h3
      replace h4 := (HB.out.cell (p := ⟨b, off + k * 4 + 3, none⟩) hbl).trans h4
      have HMO : Hid (MvOK m) := hmo
      have HSTEP : Hid (WOK (stepW x m)) := (step_ok HK.out m).1
      obtain ⟨E, kb1, gv, jv, qv, bv, sl, hWx⟩ := HW.out
      have c3 := hWx.c.2.2.2
      have k1 := hWx.bm.bk.c 1
      simp at k1
      clear hWx hmo
      go_wp2_with fail
      refine (wMove HW.out HK.out m HMO.out).mono ?_
      rintro e y1 ⟨rfl, hWM, hKp⟩
      have HB1 : Hid (Below w.heap.size w y1) := HB.out.trans hKp.low
      have HW1 : Hid (WMe (fun j => w.heap.size ≤ j) bw sy (stepW x m) y1) := hWM
      clear hWM hKp h1 h2 h3 h4 c3 k1 HW HB
      obtain ⟨E2, kb2, gv2, jv2, qv2, bv2, sl2, hW2⟩ := HW1.out
      have HW2 : Hid (WM (fun j => w.heap.size ≤ j) E2 bw sy kb2 (stepW x m) gv2 jv2 qv2 bv2 sl2 y1) := hW2
      clear hW2
      go_wp2_with fail
      refine (wAll HW2.out HSTEP.out).mono ?_
      rintro e y2 ⟨lv, rfl, hrow, hY2⟩
      have HST : Hid (Sts lv (stepW x m).p.js y2) := Sts.of hrow
      have HW3 : Hid (WM (fun j => w.heap.size ≤ j) E2 bw sy kb2 (stepW x m) gv2 jv2 qv2 bv2 sl2 y2) := HW2.out.below hY2
      have HB2 : Hid (Below w.heap.size w y2) := HB1.out.trans (hY2.mono HB1.out.size)
      clear hrow hY2
      go_wp2_with fail
      refine (wWithin HW3.out HSTEP.out lv HST.out).mono ?_
      rintro e y3 ⟨rfl, hY3⟩
      have HW4 : Hid (WMe (fun j => w.heap.size ≤ j) bw sy (stepW x m) y3) := ⟨_, _, _, _, _, _, _, HW3.out.below hY3⟩
      have HB3 : Hid (Below w.heap.size w y3) := HB2.out.trans (hY3.mono HB2.out.size)
      clear hY3
      go_wp2_with fail
      go_roundg (len - (k + 1) + 1)
      case measure => omega
      case rel => exact ⟨k + 1, stepW x m, by omega, rfl, by go_num, HSTEP, HW4, HB3⟩
    · have hlt' : ¬ (k : Int) < (len : Int) := by omega
      go_wp2_with fail
      go_ret
      exact ⟨rfl, HB.out⟩

set_option maxRecDepth 100000 in
set_option maxHeartbeats 2000000 in
theorem Within_walk (c : Int) (hc1 : -9223372036854775808 ≤ c) (hc2 : c ≤ 9223372036854775807) (a : Option Addr) (len cap : Nat) (w : World) (hM : IsMvs w a len cap) :
    Calls Tryz.prog 3 #[.int .i64 c, .slice a len cap] w fun e w' => e = .returned (.bool true) ∧ Below w.heap.size w w' := by
  go_enter Tryz.func3, Tryz.ntmps3
  go_wp2_with fail
  refine (walk_within c hc1 hc2 a len cap w hM).mono ?_
  rintro e y ⟨rfl, hY⟩
  go_wp2_with fail
  go_ret
  exact ⟨rfl, hY⟩
end Go.Proofs.YtanknpmojblmcabGreatDoor

/-
  A world's walk: kept, prompt.
-/
set_option linter.unusedSimpArgs false
set_option linter.unusedVariables false
namespace Go.Proofs.YtanknpmojblmcabGreatDoor
open Go.RowKit

variable {D E : Nat → Prop} {bw sy kb : Nat} {x : WS} {gv jv qv bv : Value} {sl : Nat → Sl} {w w' : World}

set_option maxRecDepth 100000 in
set_option maxHeartbeats 4000000 in
theorem wKept (now : Int) (j k : PJ) (w : World) (h : KeptJ now j k) (h6 : j.st ≤ 6) :
    Calls Tryz.prog 43 #[.agg #[.int .i64 (j.st : Int), .int .i64 (j.nd : Int), .int .i64 (j.tm : Int), .int .i64 j.sa, .int .i64 j.en], .agg #[.int .i64 (k.st : Int), .int .i64 (k.nd : Int), .int .i64 (k.tm : Int), .int .i64 k.sa, .int .i64 k.en], .int .i64 now] w fun e w' => e = .returned (.bool true) ∧ Below w.heap.size w w' := by
  have Y := whole_alloc (whole_new w (.cells #[.int .i64 (j.st : Int), .int .i64 (j.nd : Int), .int .i64 (j.tm : Int), .int .i64 j.sa, .int .i64 j.en] 35 (0, 0))) (.cells #[.int .i64 (k.st : Int), .int .i64 (k.nd : Int), .int .i64 (k.tm : Int), .int .i64 k.sa, .int .i64 k.en] 35)
  have Z := whole_new (w.alloc (.cells #[.int .i64 (j.st : Int), .int .i64 (j.nd : Int), .int .i64 (j.tm : Int), .int .i64 j.sa, .int .i64 j.en] 35)) (.cells #[.int .i64 (k.st : Int), .int .i64 (k.nd : Int), .int .i64 (k.tm : Int), .int .i64 k.sa, .int .i64 k.en] 35 (0, 0))
  rw [World.size_alloc] at Z
  have HB : Hid (Below w.heap.size w ((w.alloc (.cells #[.int .i64 (j.st : Int), .int .i64 (j.nd : Int), .int .i64 (j.tm : Int), .int .i64 j.sa, .int .i64 j.en] 35)).alloc (.cells #[.int .i64 (k.st : Int), .int .i64 (k.nd : Int), .int .i64 (k.tm : Int), .int .i64 k.sa, .int .i64 k.en] 35))) := ((Below.refl _ w).alloc (Nat.le_refl _) _).alloc (by simp) _
  obtain ⟨t1, t2, t3⟩ := h
  obtain ⟨cd, st, nd, tm, sa, en⟩ := j
  obtain ⟨cd2, st2, nd2, tm2, sa2, en2⟩ := k
  dsimp only at *
  go_enter Tryz.func43, Tryz.ntmps43
  go_upto_region 1 with fail
  generalize (w.alloc (.cells #[.int .i64 (st : Int), .int .i64 (nd : Int), .int .i64 (tm : Int), .int .i64 sa, .int .i64 en] 35)).alloc (.cells #[.int .i64 (st2 : Int), .int .i64 (nd2 : Int), .int .i64 (tm2 : Int), .int .i64 sa2, .int .i64 en2] 35) = y at *
  obtain ⟨sb, hsb⟩ : ∃ sb, sb = w.heap.size := ⟨_, rfl⟩
  rw [← hsb] at Y Z ⊢
  clear hsb
  have a0 := whole_cell Y 0; have a3 := whole_cell Y 3; have a4 := whole_cell Y 4
  have b0 := whole_cell Z 0; have b3 := whole_cell Z 3; have b4 := whole_cell Z 4
  simp at a0 a3 a4 b0 b3 b4
  by_cases h3 : 3 ≤ st
  · obtain ⟨rfl, rfl, rfl⟩ := t1 h3
    have h3' : (3 : Int) ≤ (st2 : Int) := by omega
    clear t1 t2 t3
    go_wp2_with fail
    go_ret
    exact ⟨rfl, HB.out⟩
  have h3' : ¬ (3 : Int) ≤ (st : Int) := by omega
  have hst : st = 0 ∨ st = 1 ∨ st = 2 := by omega
  clear t1
  rcases hst with rfl | rfl | rfl
  · clear t2 t3
    go_wp2_with fail
    go_ret
    exact ⟨rfl, HB.out⟩
  · have q := t3 rfl
    clear t2 t3
    rcases q with ⟨rfl, rfl⟩ | ⟨q1, q2, q3, q4, q5⟩
    · go_wp2_with fail
      go_ret
      exact ⟨rfl, HB.out⟩
    · have hs2 : st2 = 1 ∨ st2 = 2 ∨ st2 = 3 ∨ st2 = 4 := by omega
      rcases hs2 with rfl | rfl | rfl | rfl
      · have q6 := q5 rfl
        have q7 : ¬ sa ≤ now := by omega
        clear q5
        go_wp2_with fail
        go_ret
        exact ⟨rfl, HB.out⟩
      all_goals
        clear q5
        by_cases q8 : sa ≤ now
        · go_wp2_with fail
          go_ret
          exact ⟨rfl, HB.out⟩
        · go_wp2_with fail
          go_ret
          exact ⟨rfl, HB.out⟩
  · obtain ⟨rfl, q1, q2⟩ := t2 rfl
    have q3 : (2 : Int) ≤ (st2 : Int) := by omega
    have q4 : ((st2 : Int) != 6) = true := by simp; omega
    have q5 : ¬ (st2 : Int) = 6 := by omega
    have q6 : ¬ st2 = 6 := by omega
    clear t2 t3
    go_wp2_with fail
    go_ret
    exact ⟨rfl, HB.out⟩

set_option maxRecDepth 100000 in
set_option maxHeartbeats 4000000 in
theorem wPrompt (h : WM D E bw sy kb x gv jv qv bv sl w) (js : List PJ) (la lv : Value) (hA : Sts la js w) (hS : Sts lv x.p.js w) (hl : js.length ≤ x.p.js.length) (h24 : x.p.js.length ≤ 24) (hk : ∀ i, i < js.length → KeptJ x.p.now (js.getD i pj0) (x.p.js.getD i pj0) ∧ (js.getD i pj0).st ≤ 6) :
    Calls Tryz.prog 21 #[.pointer (some ⟨bw, 0, none⟩), la, lv] w fun e w' => e = .returned (.bool true) ∧ Below w.heap.size w w' := by
  obtain ⟨aa, ac, rfl⟩ := hA.form
  obtain ⟨ba, bc, rfl⟩ := hS.form
  have CELL : ∀ (a : Option Addr) (c : Nat) (l : List PJ), Sts (.slice a l.length c) l w → ∀ k, k < l.length → ∃ g, a = some ⟨g, 0, none⟩ ∧ l.length ≤ c ∧ g < w.heap.size ∧ ∀ i, i < 5 → w.cell? ⟨g, k * 5 + i, none⟩ = (stC (l.getD k pj0))[i]? := by
    intro a c l hS k hk
    rcases hS with ⟨_, hn⟩ | ⟨g, cap, hv, hc, hg, hcell⟩
    · rw [hn] at hk; simp at hk
    · injection hv with e1 e2 e3
      subst e3
      exact ⟨g, e1, hc, hg, fun i hi => hcell k hk i hi⟩
  have HA : Hid _ := CELL aa ac js hA
  have HS : Hid _ := CELL ba bc x.p.js hS
  have HK : Hid (∀ i, i < js.length → KeptJ x.p.now (js.getD i pj0) (x.p.js.getD i pj0) ∧ (js.getD i pj0).st ≤ 6) := hk
  have HW : Hid (WM D E bw sy kb x gv jv qv bv sl w) := h
  have hbw := whole_lt h.wo
  clear CELL h hA hS hk
  obtain ⟨M, hM⟩ : ∃ M, M = x.p.js.length := ⟨_, rfl⟩
  rw [← hM] at hl h24 ⊢
  have HMM : Hid (M = x.p.js.length) := hM
  clear hM
  go_enter Tryz.func21, Tryz.ntmps21
  go_wp2_with fail
  go_loopg [7] (js.length + 1) (fun r z wr => ∃ (k : Nat), k ≤ js.length ∧ r = js.length - k + 1 ∧ z = .int .i64 (k : Int) ∧ Below w.heap.size w wr)
  case atStart => exact ⟨0, Nat.zero_le _, rfl, rfl, Below.refl _ _⟩
  case round =>
    obtain ⟨k, hk, rfl, rfl, HB⟩ := hrel
    by_cases hlt : k < js.length
    · have hlt' : (k : Int) < (js.length : Int) := by omega
      have hltM : (k : Int) < (M : Int) := by omega
      obtain ⟨g, rfl, hc, hg, hcell⟩ := HA.out k hlt
      obtain ⟨g2, rfl, hc2, hg2, hcell2⟩ := HS.out k (by rw [← HMM.out]; omega)
      rw [← HMM.out] at hc2
      obtain ⟨hkj, hk6⟩ := HK.out k hlt
      have l0 := (HB.cell (p := ⟨g, k * 5 + 0, none⟩) hg).trans (hcell 0 (by omega)); have l1 := (HB.cell (p := ⟨g, k * 5 + 1, none⟩) hg).trans (hcell 1 (by omega)); have l2 := (HB.cell (p := ⟨g, k * 5 + 2, none⟩) hg).trans (hcell 2 (by omega)); have l3 := (HB.cell (p := ⟨g, k * 5 + 3, none⟩) hg).trans (hcell 3 (by omega)); have l4 := (HB.cell (p := ⟨g, k * 5 + 4, none⟩) hg).trans (hcell 4 (by omega))
      have m0 := (HB.cell (p := ⟨g2, k * 5 + 0, none⟩) hg2).trans (hcell2 0 (by omega)); have m1 := (HB.cell (p := ⟨g2, k * 5 + 1, none⟩) hg2).trans (hcell2 1 (by omega)); have m2 := (HB.cell (p := ⟨g2, k * 5 + 2, none⟩) hg2).trans (hcell2 2 (by omega)); have m3 := (HB.cell (p := ⟨g2, k * 5 + 3, none⟩) hg2).trans (hcell2 3 (by omega)); have m4 := (HB.cell (p := ⟨g2, k * 5 + 4, none⟩) hg2).trans (hcell2 4 (by omega))
      obtain ⟨j, hj⟩ : ∃ j, j = js.getD k pj0 := ⟨_, rfl⟩
      obtain ⟨j2, hj2⟩ : ∃ j2, j2 = x.p.js.getD k pj0 := ⟨_, rfl⟩
      rw [← hj] at hkj hk6 l0 l1 l2 l3 l4
      rw [← hj2] at hkj m0 m1 m2 m3 m4
      simp [stC] at l0 l1 l2 l3 l4 m0 m1 m2 m3 m4
      have HKJ : Hid (KeptJ x.p.now j j2) := hkj
      have c2 := (HB.cell (p := ⟨bw, 2, none⟩) hbw).trans HW.out.c.2.2.1
      clear hcell hcell2 hj hj2 hkj
      go_upto_region 4 with fail
      go_cut [8] (fun s8 wx => s8 = .bool true ∧ Hid (Below wr.heap.size wr wx))
      case first =>
        go_region_with (go_at_call 43; refine (wKept x.p.now j j2 _ HKJ.out hk6).mono ?_; rintro e y1 ⟨rfl, hY1⟩; have BB : Hid (Below wr.heap.size wr y1) := (Below.refl _ wr).drew.trans hY1)
        all_goals
          go_wp2_with fail
          go_meet
          case rel => exact ⟨rfl, BB⟩
      case rest =>
        obtain ⟨rfl, HB2⟩ := hcut
        rename World => y1
        have HB3 := HB.trans (HB2.out.mono HB.size)
        clear l0 l1 l2 l3 l4 m0 m1 m2 m3 m4 c2 HB HB2
        go_wp2_with fail
        go_roundg (js.length - (k + 1) + 1)
        case measure => omega
        case rel => exact ⟨k + 1, by omega, rfl, by go_num, HB3⟩
    · have hlt' : ¬ (k : Int) < (js.length : Int) := by omega
      go_wp2_with fail
      go_ret
      exact ⟨rfl, HB⟩
end Go.Proofs.YtanknpmojblmcabGreatDoor

/-
  A world's walk: Prompt.
-/
set_option linter.unusedSimpArgs false
set_option linter.unusedVariables false
namespace Go.Proofs.YtanknpmojblmcabGreatDoor
open Go.RowKit

variable {D E : Nat → Prop} {bw sy kb : Nat} {x : WS} {gv jv qv bv : Value} {sl : Nat → Sl} {w w' : World}

/-- What was made meanwhile is not the world's. -/
theorem WM.narrowD (h : WM D E bw sy kb x gv jv qv bv sl w) (k : Below w.heap.size w w') : WM (fun j => (D j ∧ j < w.heap.size) ∨ w'.heap.size ≤ j) (fun j => (E j ∧ j < w.heap.size) ∨ w'.heap.size ≤ j) bw sy kb x gv jv qv bv sl w' := by
  have hs := k.size
  have b := h.bm.narrow k
  have hbw := whole_lt h.wo
  refine ⟨(k.block bw hbw).trans h.wo, h.sm.narrow k, ⟨b.bk, b.mr, b.pr, ⟨Or.inl ⟨h.bm.dk.1, h.bm.bk.lt⟩, b.dk.2⟩, fun g hg => ⟨Or.inl ⟨(h.bm.dv g hg).1, (h.bm.mr.lt g hg).2⟩, (b.dv g hg).2⟩, fun i hi g hg => ⟨Or.inl ⟨(h.bm.dp i hi g hg).1, ((h.bm.pr i hi).lt g hg).2⟩, (b.dp i hi g hg).2⟩, h.bm.nl⟩, ?_, Or.inl ⟨h.dw.1, hbw⟩, ?_⟩
  · intro j hj
    rcases hj with q | q
    · exact Or.inl ⟨h.ed j q.1, q.2⟩
    · exact Or.inr q
  · intro q
    rcases q with q | q
    · exact h.dw.2 q.1
    · omega
theorem Sts.keepD {v : Value} {js : List PJ} (h : Sts v js w) (hn : ∀ g, v.ownBlock = some g → ¬ D g) (k : Keep D w w') : Sts v js w' := by
  rcases h with h | ⟨g, cap, rfl, h2, h3, h4⟩
  · exact Or.inl h
  · have hg := hn g rfl
    exact Or.inr ⟨g, cap, rfl, h2, Nat.lt_of_lt_of_le h3 k.size, fun i hi j hj => (k.cell hg).trans (h4 i hi j hj)⟩
theorem Sts.below {v : Value} {js : List PJ} (h : Sts v js w) (k : Below w.heap.size w w') : Sts v js w' := by
  rcases h with h | ⟨g, cap, rfl, h2, h3, h4⟩
  · exact Or.inl h
  · exact Or.inr ⟨g, cap, rfl, h2, Nat.lt_of_lt_of_le h3 k.size, fun i hi j hj => (k.cell (p := ⟨g, i * 5 + j, none⟩) h3).trans (h4 i hi j hj)⟩
theorem Keep.lowD {n : Nat} (h : Keep D w w') (hd : ∀ k, D k → n ≤ k) : Below n w w' := ⟨h.os, h.tape, h.output, h.size, fun k hk => h.block k (fun q => by have := hd k q; omega)⟩

set_option maxRecDepth 100000 in
set_option maxHeartbeats 8000000 in
theorem walk_prompt (c : Int) (hc1 : -9223372036854775808 ≤ c) (hc2 : c ≤ 9223372036854775807) (a : Option Addr) (len cap : Nat) (w : World) (hM : IsMvs w a len cap) :
    Calls Tryz.prog 9 #[.int .i64 c, .slice a len cap, .int .i64 3] w fun e w' => e = .returned (.bool true) ∧ Below w.heap.size w w' := by
  have hcap := hM.cap_
  unfold maxLen at hcap
  have HM : Hid (IsMvs w a len cap) := hM
  clear hM
  go_enter Tryz.func9, Tryz.ntmps9
  go_wp2_with fail
  refine (wBegin c hc1 hc2 w).mono ?_
  rintro e x1 ⟨bw, sy, kb, rfl, hW, hB⟩
  have hN : pikD c % 8 < 8 := Nat.mod_lt _ (by omega)
  have HW0 : Hid (WMe (fun j => w.heap.size ≤ j) bw sy ⟨newP (1 + pikD c % 8), [], 0⟩ x1) := ⟨_, _, _, _, _, _, _, hW⟩
  have HK0 : Hid (WOK ⟨newP (1 + pikD c % 8), [], 0⟩) := new_wok _ (by omega) (by omega)
  have HB0 : Hid (Below w.heap.size w x1) := hB
  clear hW hB hN
  go_wp2_with fail
  go_loopg [9, 11] (len + 1) (fun r la z wr => ∃ (k : Nat) (x : WS) (D : Nat → Prop), k ≤ len ∧ r = len - k + 1 ∧ z = .int .i64 (k : Int) ∧ Hid (WOK x) ∧ Hid (∀ j, D j → w.heap.size ≤ j) ∧ Hid (WMe D bw sy x wr) ∧ Hid (Below w.heap.size w wr) ∧ Hid (Sts la x.p.js wr) ∧ Hid (∀ g, la.ownBlock = some g → ¬ D g))
  case atStart => exact ⟨0, _, _, Nat.zero_le _, rfl, rfl, HK0, fun _ h => h, HW0, HB0, Or.inl ⟨rfl, rfl⟩, by intro g hg; simp [Value.ownBlock] at hg⟩
  case round =>
    obtain ⟨k, x, D, hk, rfl, rfl, HK, HD, HW, HB, HLA, HLD⟩ := hrel
    by_cases hlt : k < len
    · have hlt' : (k : Int) < (len : Int) := by omega
      obtain ⟨b, off, m, rfl, hl, hm, hbl, hmo, h1, h2, h3, h4⟩ := HM.out.at_ hlt
      replace h1 := (HB.out.cell (p := ⟨b, off + k * 4, none⟩) hbl).trans h1
      replace h2 := (HB.out.cell (p := ⟨b, off + k * 4 + 1, none⟩) hbl).trans h2
      replace h3 := (HB.out.cell (p := ⟨b, off + k * 4 + 2, none⟩) hbl).trans h3
      replace h4 := (HB.out.cell (p := ⟨b, off + k * 4 + 3, none⟩) hbl).trans h4
      have HMO : Hid (MvOK m) := hmo
      obtain ⟨st1, st2, st3, st4⟩ := step_ok HK.out m
      have HSTEP : Hid (WOK (stepW x m)) := st1
      have HKEPT : Hid (x.p.js.length ≤ (stepW x m).p.js.length ∧ ∀ i, i < x.p.js.length → KeptJ (stepW x m).p.now (x.p.js.getD i pj0) ((stepW x m).p.js.getD i pj0) ∧ (x.p.js.getD i pj0).st ≤ 6) := ⟨st3, fun i hi => ⟨st4 i hi, (HK.out.wi.st.ok.n.js _ (getD_in hi)).st⟩⟩
      clear st1 st2 st3 st4
      obtain ⟨E, kb1, gv, jv, qv, bv, sl, hWx⟩ := HW.out
      have c3 := hWx.c.2.2.2
      have k1 := hWx.bm.bk.c 1
      simp at k1
      clear hWx hmo
      go_wp2_with fail
      refine (wMove HW.out HK.out m HMO.out).mono ?_
      rintro e y1 ⟨rfl, hWM, hKp⟩
      have HB1 : Hid (Below w.heap.size w y1) := HB.out.trans (hKp.lowD HD.out)
      have HW1 : Hid (WMe D bw sy (stepW x m) y1) := hWM
      have HLA1 : Hid (Sts _ x.p.js y1) := HLA.out.keepD HLD.out hKp
      clear hWM hKp h1 h2 h3 h4 c3 k1 HW HB HLA
      obtain ⟨E2, kb2, gv2, jv2, qv2, bv2, sl2, hW2⟩ := HW1.out
      have HW2 : Hid (WM D E2 bw sy kb2 (stepW x m) gv2 jv2 qv2 bv2 sl2 y1) := hW2
      clear hW2
      go_wp2_with fail
      refine (wAll HW2.out HSTEP.out).mono ?_
      rintro e y2 ⟨lv, rfl, hrow, hY2⟩
      have HST : Hid (Sts lv (stepW x m).p.js y2) := Sts.of hrow
      have HW3 : Hid (WM (fun j => (D j ∧ j < y1.heap.size) ∨ y2.heap.size ≤ j) (fun j => (E2 j ∧ j < y1.heap.size) ∨ y2.heap.size ≤ j) bw sy kb2 (stepW x m) gv2 jv2 qv2 bv2 sl2 y2) := HW2.out.narrowD hY2
      have HB2 : Hid (Below w.heap.size w y2) := HB1.out.trans (hY2.mono HB1.out.size)
      have HLA2 : Hid (Sts _ x.p.js y2) := HLA1.out.below hY2
      have hs1 := HB1.out.size
      have HD2 : Hid (∀ j, ((D j ∧ j < y1.heap.size) ∨ y2.heap.size ≤ j) → w.heap.size ≤ j) := by
        intro j hj
        have := HB2.out.size
        rcases hj with q | q
        · exact HD.out j q.1
        · omega
      have HLD2 : Hid (∀ g, lv.ownBlock = some g → ¬ ((D g ∧ g < y1.heap.size) ∨ y2.heap.size ≤ g)) := by
        intro g hg q
        have := hrow.lt g hg
        rcases q with q | q
        · have := q.2; omega
        · omega
      clear hrow hY2 HLA1 hs1
      go_wp2_with fail
      refine (wPrompt HW3.out x.p.js _ lv HLA2.out HST.out HKEPT.out.1 HSTEP.out.wi.st.ok.n.ln HKEPT.out.2).mono ?_
      rintro e y3 ⟨rfl, hY3⟩
      have HW4 : Hid (WMe (fun j => (D j ∧ j < y1.heap.size) ∨ y2.heap.size ≤ j) bw sy (stepW x m) y3) := ⟨_, _, _, _, _, _, _, HW3.out.below hY3⟩
      have HB3 : Hid (Below w.heap.size w y3) := HB2.out.trans (hY3.mono HB2.out.size)
      have HST3 : Hid (Sts lv (stepW x m).p.js y3) := HST.out.below hY3
      clear hY3
      go_wp2_with fail
      go_roundg (len - (k + 1) + 1)
      case measure => omega
      case rel => exact ⟨k + 1, stepW x m, _, by omega, rfl, by go_num, HSTEP, HD2, HW4, HB3, HST3, HLD2⟩
    · have hlt' : ¬ (k : Int) < (len : Int) := by omega
      go_wp2_with fail
      go_ret
      exact ⟨rfl, HB.out⟩

set_option maxRecDepth 100000 in
set_option maxHeartbeats 2000000 in
theorem Prompt_walk (c : Int) (hc1 : -9223372036854775808 ≤ c) (hc2 : c ≤ 9223372036854775807) (a : Option Addr) (len cap : Nat) (w : World) (hM : IsMvs w a len cap) :
    Calls Tryz.prog 4 #[.int .i64 c, .slice a len cap] w fun e w' => e = .returned (.bool true) ∧ Below w.heap.size w w' := by
  go_enter Tryz.func4, Tryz.ntmps4
  go_wp2_with fail
  refine (walk_prompt c hc1 hc2 a len cap w hM).mono ?_
  rintro e y ⟨rfl, hY⟩
  go_wp2_with fail
  go_ret
  exact ⟨rfl, hY⟩
end Go.Proofs.YtanknpmojblmcabGreatDoor

/-
  Three worlds side by side.
-/
set_option linter.unusedSimpArgs false
set_option linter.unusedVariables false
namespace Go.Proofs.YtanknpmojblmcabGreatDoor
open Go.RowKit

/-- What lay in D ahead of n, and what is made from m on. -/
def nr (D : Nat → Prop) (n m : Nat) : Nat → Prop := fun j => (D j ∧ j < n) ∨ m ≤ j
variable {D E : Nat → Prop} {bw sy kb s : Nat} {p : PS} {x y z : WS} {gv jv qv bv : Value} {sl : Nat → Sl} {w w' : World}

theorem SM.nar (h : SM D s p gv jv qv w) (k : ∀ b, D b → b < w.heap.size → w'.heap[b]? = w.heap[b]?) : SM (nr D w.heap.size w'.heap.size) s p gv jv qv w' :=
  ⟨(k s h.ds h.pl.lt).trans h.pl, owns_same h.gr (fun g hg => k g (h.dg g hg) (h.gr.lt g hg).2), owns_same h.jr (fun g hg => k g (h.dj g hg) (h.jr.lt g hg).2), owns_same h.qr (fun g hg => k g (h.dq g hg) (h.qr.lt g hg).2),
    Or.inl ⟨h.ds, h.pl.lt⟩, fun g hg => Or.inl ⟨h.dg g hg, (h.gr.lt g hg).2⟩, fun g hg => Or.inl ⟨h.dj g hg, (h.jr.lt g hg).2⟩, fun g hg => Or.inl ⟨h.dq g hg, (h.qr.lt g hg).2⟩, fun k hk => Or.inr hk⟩
theorem WM.nar (h : WM D E bw sy kb x gv jv qv bv sl w) (hs : w.heap.size ≤ w'.heap.size) (k : ∀ b, D b → b < w.heap.size → w'.heap[b]? = w.heap[b]?) : WM (nr D w.heap.size w'.heap.size) (nr E w.heap.size w'.heap.size) bw sy kb x gv jv qv bv sl w' := by
  have n : ∀ g, g < w.heap.size → ¬ E g → ¬ nr E w.heap.size w'.heap.size g := by
    intro g hg he q
    rcases q with q | q
    · exact he q.1
    · omega
  have hbw := whole_lt h.wo
  have b := h.bm
  refine ⟨(k bw h.dw.1 hbw).trans h.wo, h.sm.nar (fun b hb hl => k b (h.ed b hb) hl), ⟨(k kb b.dk.1 b.bk.lt).trans b.bk, owns_same b.mr (fun g hg => k g (b.dv g hg).1 (b.mr.lt g hg).2), fun i hi => owns_same (b.pr i hi) (fun g hg => k g (b.dp i hi g hg).1 ((b.pr i hi).lt g hg).2),
    ⟨Or.inl ⟨b.dk.1, b.bk.lt⟩, n _ b.bk.lt b.dk.2⟩, fun g hg => ⟨Or.inl ⟨(b.dv g hg).1, (b.mr.lt g hg).2⟩, n g (b.mr.lt g hg).2 (b.dv g hg).2⟩, fun i hi g hg => ⟨Or.inl ⟨(b.dp i hi g hg).1, ((b.pr i hi).lt g hg).2⟩, n g ((b.pr i hi).lt g hg).2 (b.dp i hi g hg).2⟩, b.nl⟩, ?_, ⟨Or.inl ⟨h.dw.1, hbw⟩, n _ hbw h.dw.2⟩⟩
  intro j hj
  rcases hj with q | q
  · exact Or.inl ⟨h.ed j q.1, q.2⟩
  · exact Or.inr q
theorem WMe.nar (h : WMe D bw sy x w) (hs : w.heap.size ≤ w'.heap.size) (k : ∀ b, D b → b < w.heap.size → w'.heap[b]? = w.heap[b]?) : WMe (nr D w.heap.size w'.heap.size) bw sy x w' := by
  obtain ⟨E, kb, gv, jv, qv, bv, sl, hW⟩ := h
  exact ⟨_, _, _, _, _, _, _, hW.nar hs k⟩

/-- Three worlds, each in blocks of its own. -/
structure Trio (base : Nat) (D1 D2 D3 : Nat → Prop) (b1 s1 b2 s2 b3 s3 : Nat) (x y z : WS) (w : World) : Prop where
  a : WMe D1 b1 s1 x w
  b : WMe D2 b2 s2 y w
  c : WMe D3 b3 s3 z w
  ab : ∀ j, j < w.heap.size → D1 j → ¬ D2 j
  ac : ∀ j, j < w.heap.size → D1 j → ¬ D3 j
  bc : ∀ j, j < w.heap.size → D2 j → ¬ D3 j
  l1 : ∀ j, D1 j → base ≤ j
  l2 : ∀ j, D2 j → base ≤ j
  l3 : ∀ j, D3 j → base ≤ j
  bs : base ≤ w.heap.size
variable {base : Nat} {D1 D2 D3 : Nat → Prop} {b1 s1 b2 s2 b3 s3 : Nat} {x' : WS}
theorem Trio.rot (h : Trio base D1 D2 D3 b1 s1 b2 s2 b3 s3 x y z w) : Trio base D2 D3 D1 b2 s2 b3 s3 b1 s1 y z x w :=
  ⟨h.b, h.c, h.a, h.bc, fun j hj q r => h.ab j hj r q, fun j hj q r => h.ac j hj r q, h.l2, h.l3, h.l1, h.bs⟩
theorem Trio.fst (h : Trio base D1 D2 D3 b1 s1 b2 s2 b3 s3 x y z w) (k : Keep D1 w w') (hw : WMe D1 b1 s1 x' w') : Trio base D1 (nr D2 w.heap.size w'.heap.size) (nr D3 w.heap.size w'.heap.size) b1 s1 b2 s2 b3 s3 x' y z w' := by
  have hs := k.size
  have hb := h.bs
  have N : ∀ {A B : Nat → Prop}, (∀ j, j < w.heap.size → A j → ¬ B j) → ∀ j, j < w'.heap.size → A j → ¬ nr B w.heap.size w'.heap.size j := by
    intro A B q j hj ha r
    rcases r with r | r
    · exact q j r.2 ha r.1
    · omega
  refine ⟨hw, h.b.nar hs (fun b hb hl => k.block b (fun q => h.ab b hl q hb)), h.c.nar hs (fun b hb hl => k.block b (fun q => h.ac b hl q hb)), N h.ab, N h.ac, ?_, h.l1, ?_, ?_, by omega⟩
  · intro j hj ha
    rcases ha with q | q
    · exact N h.bc j hj q.1
    · omega
  · intro j hj
    rcases hj with q | q
    · exact h.l2 j q.1
    · omega
  · intro j hj
    rcases hj with q | q
    · exact h.l3 j q.1
    · omega
theorem Trio.below (h : Trio base D1 D2 D3 b1 s1 b2 s2 b3 s3 x y z w) (k : Below w.heap.size w w') : Trio base (nr D1 w.heap.size w'.heap.size) (nr D2 w.heap.size w'.heap.size) (nr D3 w.heap.size w'.heap.size) b1 s1 b2 s2 b3 s3 x y z w' := by
  have hs := k.size
  have hb := h.bs
  have N : ∀ {A B : Nat → Prop}, (∀ j, j < w.heap.size → A j → ¬ B j) → ∀ j, j < w'.heap.size → nr A w.heap.size w'.heap.size j → ¬ nr B w.heap.size w'.heap.size j := by
    intro A B q j hj ha r
    rcases ha with ha | ha
    · rcases r with r | r
      · exact q j r.2 ha.1 r.1
      · omega
    · omega
  have L : ∀ {A : Nat → Prop}, (∀ j, A j → base ≤ j) → ∀ j, nr A w.heap.size w'.heap.size j → base ≤ j := by
    intro A q j hj
    rcases hj with r | r
    · exact q j r.1
    · omega
  exact ⟨h.a.nar hs (fun b _ hl => k.block b hl), h.b.nar hs (fun b _ hl => k.block b hl), h.c.nar hs (fun b _ hl => k.block b hl), N h.ab, N h.ac, N h.bc, L h.l1, L h.l2, L h.l3, by omega⟩
/-- Three worlds, wherever they lie. -/
def Tri (base b1 s1 b2 s2 b3 s3 : Nat) (x y z : WS) (w : World) : Prop := ∃ D1 D2 D3, Trio base D1 D2 D3 b1 s1 b2 s2 b3 s3 x y z w
theorem Tri.rot (h : Tri base b1 s1 b2 s2 b3 s3 x y z w) : Tri base b2 s2 b3 s3 b1 s1 y z x w := by
  obtain ⟨_, _, _, h⟩ := h
  exact ⟨_, _, _, h.rot⟩
theorem Tri.below (h : Tri base b1 s1 b2 s2 b3 s3 x y z w) (k : Below w.heap.size w w') : Tri base b1 s1 b2 s2 b3 s3 x y z w' := by
  obtain ⟨_, _, _, h⟩ := h
  exact ⟨_, _, _, h.below k⟩
/-- A move of the first. -/
theorem Tri.move (h : Tri base b1 s1 b2 s2 b3 s3 x y z w) (hK : WOK x) (m : Mv) (hm : MvOK m) :
    Calls Tryz.prog 11 #[.pointer (some ⟨b1, 0, none⟩), .agg (mvA m)] w fun e w' => e = .returned (.bool true) ∧ Tri base b1 s1 b2 s2 b3 s3 (stepW x m) y z w' ∧ Below base w w' := by
  obtain ⟨D1, D2, D3, h⟩ := h
  refine (wMove h.a hK m hm).mono ?_
  rintro e y1 ⟨rfl, hWM, hKp⟩
  exact ⟨rfl, ⟨_, _, _, h.fst hKp hWM⟩, hKp.lowD h.l1⟩
theorem Tri.seat (h : Tri base b1 s1 b2 s2 b3 s3 x y z w) : ∃ D E kb gv jv qv bv sl, WM D E b1 s1 kb x gv jv qv bv sl w := by
  obtain ⟨D1, D2, D3, h⟩ := h
  obtain ⟨E, kb, gv, jv, qv, bv, sl, hW⟩ := h.a
  exact ⟨_, _, _, _, _, _, _, _, hW⟩
theorem Tri.bs (h : Tri base b1 s1 b2 s2 b3 s3 x y z w) : base ≤ w.heap.size := by
  obtain ⟨D1, D2, D3, h⟩ := h
  exact h.bs
end Go.Proofs.YtanknpmojblmcabGreatDoor

/-
  Two lists that tell the same: sameInts, sameTexts, sameAll.
-/
set_option linter.unusedSimpArgs false
set_option linter.unusedVariables false
namespace Go.Proofs.YtanknpmojblmcabGreatDoor
open Go.RowKit

variable {D E : Nat → Prop} {bw sy kb : Nat} {x : WS} {gv jv qv bv : Value} {sl : Nat → Sl} {w w' : World}

theorem Ns.cells {a : Option Addr} {c : Nat} {l : List Nat} (h : Ns (.slice a l.length c) l w) : ∀ k, k < l.length → ∃ g, a = some ⟨g, 0, none⟩ ∧ l.length ≤ c ∧ g < w.heap.size ∧ w.cell? ⟨g, k, none⟩ = some (.int .i64 (l.getD k 0 : Int)) := by
  intro k hk
  rcases h with ⟨_, hn⟩ | ⟨g, cap, hv, hc, hg, hcell⟩
  · rw [hn] at hk; simp at hk
  · injection hv with e1 e2 e3
    subst e3
    exact ⟨g, e1, hc, hg, by rw [hcell k hk]; simp [hk]⟩
theorem Ns.keepD {v : Value} {l : List Nat} (h : Ns v l w) (hn : ∀ g, v.ownBlock = some g → ¬ D g) (k : Keep D w w') : Ns v l w' := by
  rcases h with h | ⟨g, cap, rfl, h2, h3, h4⟩
  · exact Or.inl h
  · exact Or.inr ⟨g, cap, rfl, h2, Nat.lt_of_lt_of_le h3 k.size, fun i hi => (k.cell (hn g rfl)).trans (h4 i hi)⟩
/-- A list of texts that may be read alone. -/
def Txs (v : Value) (l : List (List UInt8)) (w : World) : Prop :=
  (v = .slice none 0 0 ∧ l = []) ∨ ∃ g cap, v = .slice (some ⟨g, 0, none⟩) l.length cap ∧ l.length ≤ cap ∧ g < w.heap.size ∧ ∀ k, k < l.length → w.cell? ⟨g, k, none⟩ = some (.string (bs (l.getD k [])))
theorem Txs.of {base : Nat} {v : Value} {l : List (List UInt8)} (h : w.ownsRow base 9 1 v l.length (l.map sV)) : Txs v l w := by
  rcases h.2 with ⟨hv, hn⟩ | ⟨g, cap, cur, hv, h1, h2, h3, h4, h5, h6⟩
  · exact Or.inl ⟨hv, List.eq_nil_of_length_eq_zero hn⟩
  · right
    subst hv
    refine ⟨g, cap, rfl, by simpa using h3, whole_lt h2, ?_⟩
    intro k hk
    have := World.ownsRow.cellAt h k (by simpa using hk)
    rw [this]
    simp [hk, sV]
theorem Txs.form {v : Value} {l : List (List UInt8)} (h : Txs v l w) : ∃ a c, v = .slice a l.length c := by
  rcases h with ⟨rfl, rfl⟩ | ⟨g, cap, rfl, _⟩
  · exact ⟨_, _, rfl⟩
  · exact ⟨_, _, rfl⟩
theorem Txs.cells {a : Option Addr} {c : Nat} {l : List (List UInt8)} (h : Txs (.slice a l.length c) l w) : ∀ k, k < l.length → ∃ g, a = some ⟨g, 0, none⟩ ∧ l.length ≤ c ∧ g < w.heap.size ∧ w.cell? ⟨g, k, none⟩ = some (.string (bs (l.getD k []))) := by
  intro k hk
  rcases h with ⟨_, hn⟩ | ⟨g, cap, hv, hc, hg, hcell⟩
  · rw [hn] at hk; simp at hk
  · injection hv with e1 e2 e3
    subst e3
    exact ⟨g, e1, hc, hg, hcell k hk⟩
theorem Txs.below {v : Value} {l : List (List UInt8)} (h : Txs v l w) (k : Below w.heap.size w w') : Txs v l w' := by
  rcases h with h | ⟨g, cap, rfl, h2, h3, h4⟩
  · exact Or.inl h
  · exact Or.inr ⟨g, cap, rfl, h2, Nat.lt_of_lt_of_le h3 k.size, fun i hi => (k.cell (p := ⟨g, i, none⟩) h3).trans (h4 i hi)⟩
theorem Txs.keepD {v : Value} {l : List (List UInt8)} (h : Txs v l w) (hn : ∀ g, v.ownBlock = some g → ¬ D g) (k : Keep D w w') : Txs v l w' := by
  rcases h with h | ⟨g, cap, rfl, h2, h3, h4⟩
  · exact Or.inl h
  · exact Or.inr ⟨g, cap, rfl, h2, Nat.lt_of_lt_of_le h3 k.size, fun i hi => (k.cell (hn g rfl)).trans (h4 i hi)⟩

set_option maxRecDepth 100000 in
set_option maxHeartbeats 2000000 in
theorem kSameInts (u v : Value) (l : List Nat) (w : World) (hU : Ns u l w) (hV : Ns v l w) (hl : l.length ≤ 1000) :
    Calls Tryz.prog 58 #[u, v] w fun e w' => e = .returned (.bool true) ∧ Below w.heap.size w w' := by
  obtain ⟨ua, uc, rfl⟩ := hU.form
  obtain ⟨va, vc, rfl⟩ := hV.form
  have HU : Hid _ := hU.cells
  have HV : Hid _ := hV.cells
  clear hU hV
  obtain ⟨n, hn⟩ : ∃ n, n = l.length := ⟨_, rfl⟩
  rw [← hn] at hl HU HV ⊢
  clear hn
  go_enter Tryz.func58, Tryz.ntmps58
  go_wp2_with fail
  go_loopg [5] (n + 1) (fun r z wr => ∃ (k : Nat), k ≤ n ∧ r = n - k + 1 ∧ z = .int .i64 (k : Int) ∧ Below w.heap.size w wr)
  case atStart => exact ⟨0, Nat.zero_le _, rfl, rfl, Below.refl _ _⟩
  case round =>
    obtain ⟨k, hk, rfl, rfl, HB⟩ := hrel
    by_cases hlt : k < n
    · have hlt' : (k : Int) < (n : Int) := by omega
      obtain ⟨g, rfl, hc, hg, hcell⟩ := HU.out k hlt
      obtain ⟨g2, rfl, hc2, hg2, hcell2⟩ := HV.out k hlt
      have l0 := (HB.cell (p := ⟨g, k, none⟩) hg).trans hcell
      have l1 := (HB.cell (p := ⟨g2, k, none⟩) hg2).trans hcell2
      obtain ⟨j, hj⟩ : ∃ j, j = l.getD k 0 := ⟨_, rfl⟩
      rw [← hj] at l0 l1
      clear hcell hcell2 hj
      have HB2 := HB.drew
      go_wp2_with fail
      go_region
      go_wp2_with fail
      go_roundg (n - (k + 1) + 1)
      case measure => omega
      case rel => exact ⟨k + 1, by omega, rfl, by go_num, HB2⟩
    · have hlt' : ¬ (k : Int) < (n : Int) := by omega
      go_wp2_with fail
      go_ret
      exact ⟨rfl, HB⟩
set_option maxRecDepth 100000 in
set_option maxHeartbeats 2000000 in
theorem kSameTexts (u v : Value) (l : List (List UInt8)) (w : World) (hU : Txs u l w) (hV : Txs v l w) (hl : l.length ≤ 1000) :
    Calls Tryz.prog 19 #[u, v] w fun e w' => e = .returned (.bool true) ∧ Below w.heap.size w w' := by
  obtain ⟨ua, uc, rfl⟩ := hU.form
  obtain ⟨va, vc, rfl⟩ := hV.form
  have HU : Hid _ := hU.cells
  have HV : Hid _ := hV.cells
  clear hU hV
  obtain ⟨n, hn⟩ : ∃ n, n = l.length := ⟨_, rfl⟩
  rw [← hn] at hl HU HV ⊢
  clear hn
  go_enter Tryz.func19, Tryz.ntmps19
  go_wp2_with fail
  go_loopg [5] (n + 1) (fun r z wr => ∃ (k : Nat), k ≤ n ∧ r = n - k + 1 ∧ z = .int .i64 (k : Int) ∧ Below w.heap.size w wr)
  case atStart => exact ⟨0, Nat.zero_le _, rfl, rfl, Below.refl _ _⟩
  case round =>
    obtain ⟨k, hk, rfl, rfl, HB⟩ := hrel
    by_cases hlt : k < n
    · have hlt' : (k : Int) < (n : Int) := by omega
      obtain ⟨g, rfl, hc, hg, hcell⟩ := HU.out k hlt
      obtain ⟨g2, rfl, hc2, hg2, hcell2⟩ := HV.out k hlt
      have l0 := (HB.cell (p := ⟨g, k, none⟩) hg).trans hcell
      have l1 := (HB.cell (p := ⟨g2, k, none⟩) hg2).trans hcell2
      obtain ⟨j, hj⟩ : ∃ j, j = bs (l.getD k []) := ⟨_, rfl⟩
      rw [← hj] at l0 l1
      clear hcell hcell2 hj
      have HB2 := HB.drew
      go_wp2_with fail
      go_region
      go_wp2_with fail
      go_roundg (n - (k + 1) + 1)
      case measure => omega
      case rel => exact ⟨k + 1, by omega, rfl, by go_num, HB2⟩
    · have hlt' : ¬ (k : Int) < (n : Int) := by omega
      go_wp2_with fail
      go_ret
      exact ⟨rfl, HB⟩
set_option maxRecDepth 100000 in
set_option maxHeartbeats 4000000 in
theorem kSameAll (u v : Value) (l : List PJ) (w : World) (hU : Sts u l w) (hV : Sts v l w) (hl : l.length ≤ 1000) :
    Calls Tryz.prog 57 #[u, v] w fun e w' => e = .returned (.bool true) ∧ Below w.heap.size w w' := by
  obtain ⟨ua, uc, rfl⟩ := hU.form
  obtain ⟨va, vc, rfl⟩ := hV.form
  have HU : Hid _ := hU.cells
  have HV : Hid _ := hV.cells
  clear hU hV
  obtain ⟨n, hn⟩ : ∃ n, n = l.length := ⟨_, rfl⟩
  rw [← hn] at hl HU HV ⊢
  clear hn
  go_enter Tryz.func57, Tryz.ntmps57
  go_wp2_with fail
  go_loopg [5] (n + 1) (fun r z wr => ∃ (k : Nat), k ≤ n ∧ r = n - k + 1 ∧ z = .int .i64 (k : Int) ∧ Below w.heap.size w wr)
  case atStart => exact ⟨0, Nat.zero_le _, rfl, rfl, Below.refl _ _⟩
  case round =>
    obtain ⟨k, hk, rfl, rfl, HB⟩ := hrel
    by_cases hlt : k < n
    · have hlt' : (k : Int) < (n : Int) := by omega
      obtain ⟨g, rfl, hc, hg, hcell⟩ := HU.out k hlt
      obtain ⟨g2, rfl, hc2, hg2, hcell2⟩ := HV.out k hlt
      have l0 := (HB.cell (p := ⟨g, k * 5 + 0, none⟩) hg).trans (hcell 0 (by omega)); have l1 := (HB.cell (p := ⟨g, k * 5 + 1, none⟩) hg).trans (hcell 1 (by omega)); have l2 := (HB.cell (p := ⟨g, k * 5 + 2, none⟩) hg).trans (hcell 2 (by omega)); have l3 := (HB.cell (p := ⟨g, k * 5 + 3, none⟩) hg).trans (hcell 3 (by omega)); have l4 := (HB.cell (p := ⟨g, k * 5 + 4, none⟩) hg).trans (hcell 4 (by omega))
      have m0 := (HB.cell (p := ⟨g2, k * 5 + 0, none⟩) hg2).trans (hcell2 0 (by omega)); have m1 := (HB.cell (p := ⟨g2, k * 5 + 1, none⟩) hg2).trans (hcell2 1 (by omega)); have m2 := (HB.cell (p := ⟨g2, k * 5 + 2, none⟩) hg2).trans (hcell2 2 (by omega)); have m3 := (HB.cell (p := ⟨g2, k * 5 + 3, none⟩) hg2).trans (hcell2 3 (by omega)); have m4 := (HB.cell (p := ⟨g2, k * 5 + 4, none⟩) hg2).trans (hcell2 4 (by omega))
      obtain ⟨j, hj⟩ : ∃ j, j = l.getD k pj0 := ⟨_, rfl⟩
      rw [← hj] at l0 l1 l2 l3 l4 m0 m1 m2 m3 m4
      simp [stC] at l0 l1 l2 l3 l4 m0 m1 m2 m3 m4
      clear hcell hcell2 hj
      have b2 : ¬ (n : Int) ≤ (k : Int) := by omega
      have b3 : ¬ n ≤ k := by omega
      go_upto_region 6 with fail
      go_cut [6] (fun s6 wx => s6 = .bool true ∧ Hid (Below wr.heap.size wr wx))
      case first =>
        go_region
        go_wp2_with fail
        go_meet
        case rel => exact ⟨rfl, (Below.refl _ wr).drew⟩
      case rest =>
        obtain ⟨rfl, HB2⟩ := hcut
        rename World => y1
        have HB3 := HB.trans (HB2.out.mono HB.size)
        clear l0 l1 l2 l3 l4 m0 m1 m2 m3 m4 HB HB2
        go_wp2_with fail
        go_roundg (n - (k + 1) + 1)
        case measure => omega
        case rel => exact ⟨k + 1, by omega, rfl, by go_num, HB3⟩
    · have hlt' : ¬ (k : Int) < (n : Int) := by omega
      go_wp2_with fail
      go_ret
      exact ⟨rfl, HB⟩
end Go.Proofs.YtanknpmojblmcabGreatDoor

/-
  All that a system tells of itself: seen, sameSeen, alike.
-/
set_option linter.unusedSimpArgs false
set_option linter.unusedVariables false
namespace Go.Proofs.YtanknpmojblmcabGreatDoor
open Go.RowKit

variable {D E : Nat → Prop} {bw sy kb : Nat} {x : WS} {gv jv qv bv : Value} {sl : Nat → Sl} {w w' : World}

def cdV (j : PJ) : Value := sV j.code
theorem infoStrK : (Tryz.prog.info? 9).map (fun i => (i.zero, i.size, i.bytes)) = some (some (.string ⟨#[]⟩), 1, 16) := by kernel_rfl
theorem bs_ne {l : List UInt8} (h : l ≠ []) : ¬ bs l = ⟨#[]⟩ := by
  intro e
  apply h
  have : (bs l).data.toList = [] := by rw [e]
  simpa [bs] using this
theorem bs_ni {l : List UInt8} (h : l ≠ []) : (bs l).toList.isEmpty = false := by
  rw [bs_toList]
  cases l with
  | nil => exact absurd rfl h
  | cons a r => rfl
theorem codeP_get {p : PS} {i : Nat} (h : i < p.js.length) : codeP p (i : Int) = ((p.js.getD i pj0).code, 0) := by
  unfold codeP
  rw [if_neg (by unfold hasP; simp; omega)]
  simp
theorem take_cd {js : List PJ} {k : Nat} (h : k < js.length) : (js.take (k + 1)).map cdV = (js.take k).map cdV ++ [cdV (js.getD k pj0)] := by
  rw [List.take_add_one, List.getElem?_eq_getElem h, List.map_append]
  simp [h]

/-- What it tells. -/
structure SeenR (base : Nat) (p : PS) (lv qw cv : Value) (w : World) : Prop where
  l : w.ownsRow base 35 5 lv p.js.length (flatSt p.js)
  q : w.ownsRow base 3 1 qw p.qs.length (p.qs.map iV)
  c : w.ownsRow base 9 1 cv p.js.length (p.js.map cdV)
def snA (p : PS) (lv qw cv : Value) : Array Value := #[lv, qw, .int .i64 p.now, .int .i64 (freeF p.nodes p.js), .int .i64 (p.js.length : Int), cv]

set_option maxRecDepth 100000 in
set_option maxHeartbeats 8000000 in
theorem wSeen (h : WM D E bw sy kb x gv jv qv bv sl w) (hw : WOK x) (hC : ∀ k, k < x.p.js.length → (x.p.js.getD k pj0).code ≠ []) :
    Calls Tryz.prog 37 #[.pointer (some ⟨bw, 0, none⟩)] w fun e w' => ∃ lv qw cv, e = .returned (.tuple #[.agg (snA x.p lv qw cv), .bool true]) ∧ SeenR w.heap.size x.p lv qw cv w' ∧ Below w.heap.size w w' := by
  obtain ⟨i0, hI0, hz0, hz1, hz2⟩ := info_parts infoStrK
  have hl24 := hw.wi.st.ok.n.ln
  have hq24 := hw.wi.st.ok.ql
  have HN : Hid (NOK x.p) := hw.wi.st.ok.n
  have HC : Hid (∀ k, k < x.p.js.length → (x.p.js.getD k pj0).code ≠ []) := hC
  have HW : Hid (WM D E bw sy kb x gv jv qv bv sl w) := h
  have HK : Hid (WOK x) := hw
  have hbw := whole_lt h.wo
  have hkb := h.bm.bk.lt
  clear h hw hC
  obtain ⟨N, hN⟩ : ∃ N, N = x.p.js.length := ⟨_, rfl⟩
  have HNN : Hid (N = x.p.js.length) := hN
  clear hN
  have R := whole_alloc (whole_new w (.cells #[.slice none 0 0, .slice none 0 0, .int .i64 0, .int .i64 0, .int .i64 0, .slice none 0 0] 78 (0, 0))) (.cells #[.slice none 0 0, .slice none 0 0, .int .i64 0, .int .i64 0, .int .i64 0, .slice none 0 0] 78)
  have Y := whole_new (w.alloc (.cells #[.slice none 0 0, .slice none 0 0, .int .i64 0, .int .i64 0, .int .i64 0, .slice none 0 0] 78)) (.cells #[.slice none 0 0, .slice none 0 0, .int .i64 0, .int .i64 0, .int .i64 0, .slice none 0 0] 78 (0, 0))
  rw [World.size_alloc] at Y
  have HB0 : Below w.heap.size w ((w.alloc (.cells #[.slice none 0 0, .slice none 0 0, .int .i64 0, .int .i64 0, .int .i64 0, .slice none 0 0] 78)).alloc (.cells #[.slice none 0 0, .slice none 0 0, .int .i64 0, .int .i64 0, .int .i64 0, .slice none 0 0] 78)) := ((Below.refl _ w).alloc (Nat.le_refl _) _).alloc (by simp) _
  go_enter Tryz.func37, Tryz.ntmps37
  go_wp2_with fail
  obtain ⟨rb, hrb⟩ : ∃ rb, rb = w.heap.size := ⟨_, rfl⟩
  have hrw : w.heap.size ≤ rb := by omega
  rw [← hrb] at R Y ⊢
  obtain ⟨sb, hsb⟩ : ∃ sb, sb = rb + 1 := ⟨_, rfl⟩
  rw [← hsb] at Y ⊢
  have hsr : rb < sb := by omega
  have hy00 := whole_lt Y
  clear hsb
  generalize (w.alloc (.cells #[.slice none 0 0, .slice none 0 0, .int .i64 0, .int .i64 0, .int .i64 0, .slice none 0 0] 78)).alloc (.cells #[.slice none 0 0, .slice none 0 0, .int .i64 0, .int .i64 0, .int .i64 0, .slice none 0 0] 78) = y0 at *
  refine (wAll (HW.out.below HB0) HK.out).mono ?_
  rintro e y1 ⟨lv, rfl, hrow, hY1⟩
  obtain ⟨la, lc, hlv⟩ := row_formL hrow
  obtain ⟨LN, hLN⟩ : ∃ LN, LN = x.p.js.length := ⟨_, rfl⟩
  rw [← hLN] at hlv
  clear hLN
  subst hlv
  replace R := (hY1.block _ (whole_lt R)).trans R
  have hy0 := whole_lt Y
  replace Y := (hY1.block _ (whole_lt Y)).trans Y
  have HB1 := HB0.trans (hY1.mono HB0.size)
  have hs1 := hY1.size
  have hL : ∀ g, (Value.slice la LN lc).ownBlock = some g → w.heap.size ≤ g ∧ g ≠ sb ∧ g ≠ rb := by
    intro g hg
    have := (hrow.lt g hg).1
    exact ⟨by omega, by omega, by omega⟩
  replace hrow := ownsRow_base hrow HB0.size
  clear hY1 HB0 hrb
  -- its states
  have z0 := whole_frozen Y 0
  have a0 := whole_cell Y 0
  simp at a0
  have Y2 := whole_set Y 0 (.slice la LN lc)
  simp at Y2
  have R2 := whole_set_ne R ⟨sb, 0, none⟩ (by show sb ≠ rb; omega) (.slice la LN lc)
  have hrow2 := ownsRow_setCell_other hrow (a := ⟨sb, 0, none⟩) (fun e => (hL _ e).2.1 rfl) (.slice la LN lc)
  have HB2 := HB1.setCell (p := ⟨sb, 0, none⟩) (by show w.heap.size ≤ sb; omega) (.slice la LN lc)
  have c0 := (HW.out.below HB2).c.1
  have hs2 : y1.heap.size ≤ (y1.setCell ⟨sb, 0, none⟩ (.slice la LN lc)).heap.size := by simp
  go_wp2_with fail
  clear z0 a0 Y R hrow HB1
  generalize y1.setCell ⟨sb, 0, none⟩ (.slice la LN lc) = y2 at *
  refine (syQueue (HW.out.below HB2).sm hq24).mono ?_
  rintro e y3 ⟨qw, rfl, hq, hY3⟩
  obtain ⟨qa, qc, hqw⟩ := row_formL hq
  obtain ⟨QN, hQN⟩ : ∃ QN, QN = x.p.qs.length := ⟨_, rfl⟩
  rw [← hQN] at hqw
  clear hQN
  subst hqw
  replace R2 := (hY3.block _ (whole_lt R2)).trans R2
  replace Y2 := (hY3.block _ (whole_lt Y2)).trans Y2
  have HB3 := HB2.trans (hY3.mono HB2.size)
  have hs3 := hY3.size
  have hQ : ∀ g, (Value.slice qa QN qc).ownBlock = some g → w.heap.size ≤ g ∧ g ≠ sb ∧ g ≠ rb := by
    intro g hg
    have := (hq.lt g hg).1
    exact ⟨by omega, by omega, by omega⟩
  replace hq := ownsRow_base hq HB2.size
  have hrow3 := owns_below hrow2 hY3
  clear hY3 HB2 hrow2 c0
  -- its queue
  have z1 := whole_frozen Y2 1
  have a1 := whole_cell Y2 1
  simp at a1
  have Y4 := whole_set Y2 1 (.slice qa QN qc)
  simp at Y4
  have R4 := whole_set_ne R2 ⟨sb, 1, none⟩ (by show sb ≠ rb; omega) (.slice qa QN qc)
  have hrow4 := ownsRow_setCell_other hrow3 (a := ⟨sb, 1, none⟩) (fun e => (hL _ e).2.1 rfl) (.slice qa QN qc)
  have hq4 := ownsRow_setCell_other hq (a := ⟨sb, 1, none⟩) (fun e => (hQ _ e).2.1 rfl) (.slice qa QN qc)
  have HB4 := HB3.setCell (p := ⟨sb, 1, none⟩) (by show w.heap.size ≤ sb; omega) (.slice qa QN qc)
  have c0 := (HW.out.below HB4).c.1
  have hs4 : y3.heap.size ≤ (y3.setCell ⟨sb, 1, none⟩ (.slice qa QN qc)).heap.size := by simp
  go_wp2_with fail
  clear z1 a1 Y2 R2 hrow3 hq HB3
  generalize y3.setCell ⟨sb, 1, none⟩ (.slice qa QN qc) = y4 at *
  refine (syClock (HW.out.below HB4).sm HN.out).mono ?_
  rintro e y5 ⟨rfl, hY5⟩
  replace R4 := (hY5.block _ (whole_lt R4)).trans R4
  replace Y4 := (hY5.block _ (whole_lt Y4)).trans Y4
  have HB5 := HB4.trans (hY5.mono HB4.size)
  have hs5 := hY5.size
  have hrow5 := owns_below hrow4 hY5
  have hq5 := owns_below hq4 hY5
  clear hY5 HB4 hrow4 hq4 c0
  rw [← HNN.out]
  obtain ⟨fr, hfr⟩ : ∃ fr, fr = freeF x.p.nodes x.p.js := ⟨_, rfl⟩
  rw [← hfr]
  have HFR : Hid (fr = freeF x.p.nodes x.p.js) := hfr
  clear hfr
  have z2 := whole_frozen Y4 2; have z3 := whole_frozen Y4 3; have z4 := whole_frozen Y4 4
  have a2 := whole_cell Y4 2; have a3 := whole_cell Y4 3; have a4 := whole_cell Y4 4
  simp at a2 a3 a4
  have Y6 := whole_set (whole_set (whole_set Y4 2 (.int .i64 x.p.now)) 3 (.int .i64 fr)) 4 (.int .i64 (N : Int))
  simp at Y6
  have R6 := whole_set_ne (whole_set_ne (whole_set_ne R4 ⟨sb, 2, none⟩ (by show sb ≠ rb; omega) (.int .i64 x.p.now)) ⟨sb, 3, none⟩ (by show sb ≠ rb; omega) (.int .i64 fr)) ⟨sb, 4, none⟩ (by show sb ≠ rb; omega) (.int .i64 (N : Int))
  have hrow6 := ownsRow_setCell_other (ownsRow_setCell_other (ownsRow_setCell_other hrow5 (a := ⟨sb, 2, none⟩) (fun e => (hL _ e).2.1 rfl) (.int .i64 x.p.now)) (a := ⟨sb, 3, none⟩) (fun e => (hL _ e).2.1 rfl) (.int .i64 fr)) (a := ⟨sb, 4, none⟩) (fun e => (hL _ e).2.1 rfl) (.int .i64 (N : Int))
  have hq6 := ownsRow_setCell_other (ownsRow_setCell_other (ownsRow_setCell_other hq5 (a := ⟨sb, 2, none⟩) (fun e => (hQ _ e).2.1 rfl) (.int .i64 x.p.now)) (a := ⟨sb, 3, none⟩) (fun e => (hQ _ e).2.1 rfl) (.int .i64 fr)) (a := ⟨sb, 4, none⟩) (fun e => (hQ _ e).2.1 rfl) (.int .i64 (N : Int))
  have HB6 := ((HB5.setCell (p := ⟨sb, 2, none⟩) (by show w.heap.size ≤ sb; omega) (.int .i64 x.p.now)).setCell (p := ⟨sb, 3, none⟩) (by show w.heap.size ≤ sb; omega) (.int .i64 fr)).setCell (p := ⟨sb, 4, none⟩) (by show w.heap.size ≤ sb; omega) (.int .i64 (N : Int))
  have hs6 : y5.heap.size ≤ (((y5.setCell ⟨sb, 2, none⟩ (.int .i64 x.p.now)).setCell ⟨sb, 3, none⟩ (.int .i64 fr)).setCell ⟨sb, 4, none⟩ (.int .i64 (N : Int))).heap.size := by simp
  go_wp2_with fail
  clear z2 z3 z4 a2 a3 a4 Y4 R4 hrow5 hq5 HB5
  generalize ((y5.setCell ⟨sb, 2, none⟩ (.int .i64 x.p.now)).setCell ⟨sb, 3, none⟩ (.int .i64 fr)).setCell ⟨sb, 4, none⟩ (.int .i64 (N : Int)) = y6 at *
  have hsb6 := whole_lt Y6
  have hrb6 := whole_lt R6
  have HROW : Hid (y6.ownsRow w.heap.size 35 5 (.slice la LN lc) x.p.js.length (flatSt x.p.js)) := hrow6
  have HQ : Hid (y6.ownsRow w.heap.size 3 1 (.slice qa QN qc) x.p.qs.length (x.p.qs.map iV)) := hq6
  have HR6 : Hid (y6.heap[rb]? = some (.cells #[.slice none 0 0, .slice none 0 0, .int .i64 0, .int .i64 0, .int .i64 0, .slice none 0 0] 78 (0, 0))) := R6
  have HLQ : Hid ((∀ g, (Value.slice la LN lc).ownBlock = some g → w.heap.size ≤ g ∧ g ≠ sb ∧ g ≠ rb) ∧ ∀ g, (Value.slice qa QN qc).ownBlock = some g → w.heap.size ≤ g ∧ g ≠ sb ∧ g ≠ rb) := ⟨hL, hQ⟩
  have HB6' : Hid (Below w.heap.size w y6) := HB6
  have hsz6 := HB6.size
  have hsw : w.heap.size ≤ sb := by omega
  clear hrow6 hq6 R6 hL hQ HB6 hs1 hs2 hs3 hs4 hs5 hs6 hy0 hy00
  rw [← HNN.out] at hl24
  go_loopg [6, 10] (N + 1) (fun r ok z wr => ∃ (k : Nat) (ca : Option Addr) (cc : Nat), k ≤ N ∧ r = N - k + 1 ∧ ok = .bool true ∧ z = .int .i64 (k : Int) ∧ wr.heap[sb]? = some (.cells #[.slice la LN lc, .slice qa QN qc, .int .i64 x.p.now, .int .i64 fr, .int .i64 (N : Int), .slice ca k cc] 78 (0, 0)) ∧ wr.ownsRow y6.heap.size 9 1 (.slice ca k cc) k ((x.p.js.take k).map cdV) ∧ Hid (Keep (fun j => j = sb ∨ y6.heap.size ≤ j) y6 wr))
  case atStart => exact ⟨0, none, 0, Nat.zero_le _, rfl, rfl, rfl, Y6, World.ownsRow_nil _ _ _ _, Keep.refl _ _⟩
  case round =>
    obtain ⟨k, ca, cc, hk, rfl, rfl, rfl, Y, hcd, HKP⟩ := hrel
    have HBW : Hid (Below w.heap.size w wr) := HB6'.out.trans (HKP.out.lowD (by rintro j (rfl | q) <;> omega))
    have c0 := (HW.out.below HBW.out).c.1
    have c3 := (HW.out.below HBW.out).c.2.2.2
    have k2 := (HBW.out.cell (p := ⟨kb, 2, none⟩) hkb).trans (HW.out.bm.bk.c 2)
    simp at k2
    rw [show (x.p.js.length : Int) = (N : Int) from by rw [HNN.out]] at k2
    have hszr := HKP.out.size
    by_cases hlt : k < N
    · have hlt' : (k : Int) < (N : Int) := by omega
      have hlt2 : k < x.p.js.length := by rw [← HNN.out]; exact hlt
      have HCP : Hid (codeP x.p (k : Int) = _) := codeP_get hlt2
      have HTK : Hid ((x.p.js.take (k + 1)).map cdV = (x.p.js.take k).map cdV ++ [cdV (x.p.js.getD k pj0)]) := take_cd hlt2
      have hni := bs_ni (HC.out k hlt2)
      clear hlt2
      obtain ⟨xs, hxs⟩ : ∃ xs, xs = (x.p.js.take k).map cdV := ⟨_, rfl⟩
      rw [← hxs] at hcd HTK
      clear hxs
      go_wp2_with fail
      refine (syCode (HW.out.below HBW.out).sm (k : Int) (by rw [← HNN.out]; exact hl24)).mono ?_
      rintro e y1 ⟨he, rfl⟩
      rw [HCP.out] at he
      dsimp only at he
      obtain ⟨tb, htb⟩ : ∃ tb, tb = bs (x.p.js.getD k pj0).code := ⟨_, rfl⟩
      rw [← htb] at he hni
      have HNI : Hid (tb.toList.isEmpty = false) := hni
      have HCV : Hid (cdV (x.p.js.getD k pj0) = .string tb) := by show _ = _; unfold cdV sV; rw [htb]
      clear htb HCP
      subst he
      have a5 := whole_cell Y 5
      simp at a5
      have hca : ∀ g, (Value.slice ca k cc).ownBlock = some g → y6.heap.size ≤ g := fun g hg => (hcd.lt g hg).1
      have hne' : tb.toList.isEmpty = false := HNI.out
      go_wp2_with (at_builtin; refine wpList_append_lies _ rfl _ _ 46 rfl y6.heap.size 9 i0 (.string ⟨#[]⟩) 1 16 Tryz.underlying46 hI0 hz0 hz1 hz2 rfl (by decide) _ k xs rfl (hcd.alloc _) ⟨y1.heap.size, 0, none⟩ 1 1 [.string tb] rfl rfl ?c1 ?c2 (by decide) ?c3 ?c4 ?c5 _ rfl ?_)
      case c1 => exact World.news_of_block (cs := #[.string tb]) (t := 9) (fr := (0, 0)) (whole_new y1 (.cells #[.string tb] 9 (0, 0)))
      case c2 => intro u hu; simp at hu; subst hu; rfl
      case c3 => unfold maxLen; omega
      case c4 => omega
      case c5 => simp; omega
      intro g4 cap4 x4 hown4 hgrow4 hat4 hlt4
      have hsby := whole_lt Y
      have Y4 : x4.heap[sb]? = _ := (hgrow4.block sb (by simp; omega) (fun e => by have := hca _ e.symm; omega)).trans (whole_alloc Y _)
      have HK4 : Keep (fun j => j = sb ∨ y6.heap.size ≤ j) y6 x4 := by
        refine (HKP.out.trans (Keep.below ((Below.refl _ y1).alloc (Nat.le_refl _) _) ?_)).grown hgrow4 ?_ ?_
        · intro j hj; exact Or.inr (by omega)
        · intro j hj; exact Or.inr (hca j hj)
        · intro j hj; simp at hj; exact Or.inr (by omega)
      have Y5 := whole_set Y4 5 (.slice (some ⟨g4, 0, none⟩) (k + 1) cap4)
      simp at Y5
      have HK5 : Hid (Keep (fun j => j = sb ∨ y6.heap.size ≤ j) y6 (x4.setCell ⟨sb, 5, none⟩ (.slice (some ⟨g4, 0, none⟩) (k + 1) cap4))) := HK4.setCell (Or.inl rfl) _
      have hg4 : y6.heap.size ≤ g4 := (hown4.lt g4 rfl).1
      have hown5 : (x4.setCell ⟨sb, 5, none⟩ (.slice (some ⟨g4, 0, none⟩) (k + 1) cap4)).ownsRow y6.heap.size 9 1 (.slice (some ⟨g4, 0, none⟩) (k + 1) cap4) (k + 1) ((x.p.js.take (k + 1)).map cdV) := by
        rw [HTK.out, HCV.out]
        exact ownsRow_setCell_other hown4 (a := ⟨sb, 5, none⟩) (fun e => by simp [Value.ownBlock] at e; omega) _
      have z5 := whole_frozen Y4 5
      have a6 := whole_cell Y4 5
      simp at a6
      clear hown4 hgrow4 hat4 hlt4 HK4 Y hcd hca HTK HCV a5 c0 c3 k2 hni hne' hsby HKP HBW
      go_wp2_with fail
      clear z5 a6 Y4
      go_roundg (N - (k + 1) + 1)
      case measure => omega
      case rel => exact ⟨k + 1, some ⟨g4, 0, none⟩, cap4, by omega, rfl, rfl, by go_num, Y5, hown5, HK5⟩
    · have hlt' : ¬ (k : Int) < (N : Int) := by omega
      obtain rfl : k = N := by omega
      have R : wr.heap[rb]? = _ := (HKP.out.block rb (by rintro (q | q) <;> omega)).trans HR6.out
      have a0 := whole_cell Y 0; have a1 := whole_cell Y 1; have a2 := whole_cell Y 2; have a3 := whole_cell Y 3; have a4 := whole_cell Y 4; have a5 := whole_cell Y 5
      simp at a0 a1 a2 a3 a4 a5
      have b0 := whole_cell R 0; have b1 := whole_cell R 1; have b2 := whole_cell R 2; have b3 := whole_cell R 3; have b4 := whole_cell R 4; have b5 := whole_cell R 5
      simp at b0 b1 b2 b3 b4 b5
      have z0 := whole_frozen R 0; have z1 := whole_frozen R 1; have z2 := whole_frozen R 2; have z3 := whole_frozen R 3; have z4 := whole_frozen R 4; have z5 := whole_frozen R 5
      go_wp2_with fail
      have RF := whole_set (whole_set (whole_set (whole_set (whole_set (whole_set R 0 (.slice la LN lc)) 1 (.slice qa QN qc)) 2 (.int .i64 x.p.now)) 3 (.int .i64 fr)) 4 (.int .i64 (k : Int))) 5 (.slice ca k cc)
      simp at RF
      have hle : ∀ i u (y : World), Below w.heap.size w y → Below w.heap.size w (y.setCell ⟨rb, i, none⟩ u) := fun i u y h => h.setCell (p := ⟨rb, i, none⟩) hrw u
      have hB := hle 5 (.slice ca k cc) _ (hle 4 (.int .i64 (k : Int)) _ (hle 3 (.int .i64 fr) _ (hle 2 (.int .i64 x.p.now) _ (hle 1 (.slice qa QN qc) _ (hle 0 (.slice la LN lc) _ HBW.out)))))
      have hro : ∀ (y : World) (base : Nat) (e : TypeId) (sz : Nat) (v : Value) (n : Nat) (xs : List Value), (∀ g, v.ownBlock = some g → g ≠ rb) → ∀ i u, y.ownsRow base e sz v n xs → (y.setCell ⟨rb, i, none⟩ u).ownsRow base e sz v n xs := fun y base e sz v n xs hv i u h => ownsRow_setCell_other h (a := ⟨rb, i, none⟩) (fun q => hv _ q rfl) u
      have six : ∀ (base : Nat) (e : TypeId) (sz : Nat) (v : Value) (n : Nat) (xs : List Value), (∀ g, v.ownBlock = some g → g ≠ rb) → wr.ownsRow base e sz v n xs → ((((((wr.setCell ⟨rb, 0, none⟩ (.slice la LN lc)).setCell ⟨rb, 1, none⟩ (.slice qa QN qc)).setCell ⟨rb, 2, none⟩ (.int .i64 x.p.now)).setCell ⟨rb, 3, none⟩ (.int .i64 fr)).setCell ⟨rb, 4, none⟩ (.int .i64 (k : Int))).setCell ⟨rb, 5, none⟩ (.slice ca k cc)).ownsRow base e sz v n xs := fun base e sz v n xs hv h => hro _ _ _ _ _ _ _ hv _ _ (hro _ _ _ _ _ _ _ hv _ _ (hro _ _ _ _ _ _ _ hv _ _ (hro _ _ _ _ _ _ _ hv _ _ (hro _ _ _ _ _ _ _ hv _ _ (hro _ _ _ _ _ _ _ hv _ _ h)))))
      have r1 : wr.ownsRow w.heap.size 35 5 (.slice la LN lc) x.p.js.length (flatSt x.p.js) := owns_same HROW.out (fun g hg => HKP.out.block g (by have := HLQ.out.1 g hg; have := (HROW.out.lt g hg).2; rintro (q | q) <;> omega))
      have r2 : wr.ownsRow w.heap.size 3 1 (.slice qa QN qc) x.p.qs.length (x.p.qs.map iV) := owns_same HQ.out (fun g hg => HKP.out.block g (by have := HLQ.out.2 g hg; have := (HQ.out.lt g hg).2; rintro (q | q) <;> omega))
      have r3 : wr.ownsRow w.heap.size 9 1 (.slice ca k cc) x.p.js.length (x.p.js.map cdV) := by
        have := ownsRow_base hcd hsz6
        rw [HNN.out, List.take_length] at this
        rw [HNN.out]
        exact this
      refine bodyPost_ret (resultsCT rfl _ _ rb 78 #[.slice la LN lc, .slice qa QN qc, .int .i64 x.p.now, .int .i64 fr, .int .i64 (k : Int), .slice ca k cc] (0, 0) _ (by rfl) RF Tryz.underlying78 (by rfl) (by kernel_rfl)) rfl ?_
      refine ⟨.slice la LN lc, .slice qa QN qc, .slice ca k cc, ?_, ⟨six _ _ _ _ _ _ (fun g hg => (HLQ.out.1 g hg).2.2) r1, six _ _ _ _ _ _ (fun g hg => (HLQ.out.2 g hg).2.2) r2, six _ _ _ _ _ _ (fun g hg => by have := (hcd.lt g hg).1; omega) r3⟩, hB⟩
      unfold snA
      rw [← HFR.out, ← HNN.out]
      rfl
end Go.Proofs.YtanknpmojblmcabGreatDoor

/-
  Batches that may not be are refused: batches.
-/
set_option linter.unusedSimpArgs false
set_option linter.unusedVariables false
namespace Go.Proofs.YtanknpmojblmcabGreatDoor
open Go.RowKit

variable {D E D' E' : Nat → Prop} {bw sy kb : Nat} {x : WS} {gv jv qv bv : Value} {sl : Nat → Sl} {w0 w w' w1 w2 : World}

theorem WK.submit (h : WK D E bw sy kb x bv sl w0 w) (hP : POK x.p) (hG : GsOK x.p) (T : ByteArray) (hT : T.size ≤ maxLen) {er at_ : Nat} {ring : List Nat} (hR : Rfd x.p T.data.toList er at_ ring) :
    Calls Tryz.prog 52 #[.pointer (some ⟨sy, 0, none⟩), .string T] w fun e w' => ∃ rv, e = .returned (.agg #[.int .i64 (er : Int), .int .i64 (at_ : Int), .int .i64 0, .int .i64 0, rv]) ∧ w'.ownsRow w.heap.size 3 1 rv ring.length (ring.map iV) ∧ WK D E bw sy kb x bv sl w0 w' := by
  have h' := h
  obtain ⟨⟨gv, jv, qv, hW⟩, hK⟩ := h
  refine (sySubmit T hW.sm hP hG hR.rd hT hR.tk).mono ?_
  rintro e y ⟨rv, he, hc⟩
  rw [hR.sub] at he hc
  rcases hc with ⟨_, hB, hrow⟩ | ⟨hrv, hr, ⟨gv', jv', qv', hS⟩, hY⟩
  · exact ⟨rv, he, hrow, h'.below hB⟩
  · refine ⟨rv, he, ?_, ⟨_, _, _, hW.sys hS hY rfl rfl rfl⟩, hK.trans hY⟩
    dsimp only at hr
    rw [hr, hrv]
    exact World.ownsRow_nil _ _ _ _
/-- What lay there meanwhile stays as it was. -/
theorem WM.outer {gv' jv' qv' : Value} (h : WM D E bw sy kb x gv jv qv bv sl w) (k : Below w.heap.size w w1) (hW : WM (fun j => (D j ∧ j < w.heap.size) ∨ w1.heap.size ≤ j) (fun j => (E j ∧ j < w.heap.size) ∨ w1.heap.size ≤ j) bw sy kb x gv' jv' qv' bv sl w2) : WM D E bw sy kb x gv' jv' qv' bv sl w2 :=
  ⟨hW.wo, hW.sm.widen (narrow_sub h.sm k), ⟨hW.bm.bk, hW.bm.mr, hW.bm.pr, h.bm.dk, h.bm.dv, h.bm.dp, hW.bm.nl⟩, h.ed, h.dw⟩
theorem WK.outer (h : WM D E bw sy kb x gv jv qv bv sl w) (k : Below w.heap.size w w1) (h2 : WK (fun j => (D j ∧ j < w.heap.size) ∨ w1.heap.size ≤ j) (fun j => (E j ∧ j < w.heap.size) ∨ w1.heap.size ≤ j) bw sy kb x bv sl w1 w2) : WK D E bw sy kb x bv sl w w2 := by
  obtain ⟨⟨gv', jv', qv', hW⟩, hK⟩ := h2
  exact ⟨⟨_, _, _, h.outer k hW⟩, (Keep.below k h.sm.dom).trans (hK.widen (narrow_sub h.sm k))⟩
theorem WM.same (h : WM D E bw sy kb x gv jv qv bv sl w) (hs : w.heap.size ≤ w'.heap.size) (k : ∀ b, D b → b < w.heap.size → w'.heap[b]? = w.heap[b]?) : WM D E bw sy kb x gv jv qv bv sl w' := by
  have b := h.bm
  have s := h.sm
  have ke : ∀ c, E c → c < w.heap.size → w'.heap[c]? = w.heap[c]? := fun c hc hl => k c (h.ed c hc) hl
  exact ⟨(k bw h.dw.1 (whole_lt h.wo)).trans h.wo, ⟨(ke sy s.ds s.pl.lt).trans s.pl, owns_same s.gr (fun g hg => ke g (s.dg g hg) (s.gr.lt g hg).2), owns_same s.jr (fun g hg => ke g (s.dj g hg) (s.jr.lt g hg).2), owns_same s.qr (fun g hg => ke g (s.dq g hg) (s.qr.lt g hg).2), s.ds, s.dg, s.dj, s.dq, fun j hj => s.dom j (Nat.le_trans hs hj)⟩,
    ⟨(k kb b.dk.1 b.bk.lt).trans b.bk, owns_same b.mr (fun g hg => k g (b.dv g hg).1 (b.mr.lt g hg).2), fun i hi => owns_same (b.pr i hi) (fun g hg => k g (b.dp i hi g hg).1 ((b.pr i hi).lt g hg).2), b.dk, b.dv, b.dp, b.nl⟩, h.ed, h.dw⟩
/-- A block that was made ahead of a call is no part of the system. -/
theorem WK.boxed (h : WK D E bw sy kb x bv sl w0 w) (Z : Obj) : ∃ D' E', WK D' E' bw sy kb x bv sl (w.alloc Z).drew (w.alloc Z).drew ∧ ∀ y, WK D' E' bw sy kb x bv sl (w.alloc Z).drew y → y.heap[w.heap.size]? = some Z ∧ ∀ y', Keep (fun j => j = w.heap.size) y y' → WK D E bw sy kb x bv sl w0 y' := by
  obtain ⟨⟨gv, jv, qv, hW⟩, hK⟩ := h
  have hB : Below w.heap.size w (w.alloc Z).drew := ((Below.refl _ w).alloc (Nat.le_refl _) Z).drew
  have hz : (w.alloc Z).drew.heap.size = w.heap.size + 1 := by show (w.alloc Z).heap.size = _; simp
  refine ⟨_, _, WK.zero (hW.narrowD hB), ?_⟩
  intro y hy
  have hy2 := hy
  obtain ⟨⟨gv', jv', qv', hW'⟩, hK'⟩ := hy
  have hn : ∀ A : Nat → Prop, ¬ ((A w.heap.size ∧ w.heap.size < w.heap.size) ∨ (w.alloc Z).drew.heap.size ≤ w.heap.size) := by
    intro A q
    rcases q with q | q
    · omega
    · omega
  refine ⟨(hK'.block _ (hn E)).trans (whole_new w Z), ?_⟩
  intro y' hk
  have hW2 := hW'.same hk.size (fun b hb _ => hk.block b (fun e => by subst e; exact hn D hb))
  have sub : ∀ j, ((E j ∧ j < w.heap.size) ∨ (w.alloc Z).drew.heap.size ≤ j) → E j := narrow_sub hW.sm hB
  exact ⟨⟨_, _, _, hW.outer hB hW2⟩, hK.trans (((Keep.below hB hW.sm.dom).trans (hK'.widen sub)).trans (hk.widen (fun j hj => by subst hj; exact hW.sm.dom _ (Nat.le_refl _))))⟩
theorem flatRf_get : ∀ (l : List RfT) (k : Nat), k < l.length → ∀ i, i < 3 → (flatRf l)[k * 3 + i]? = (rfC (l.getD k ([], 0, 0)))[i]? := by
  intro l
  induction l with
  | nil => intro k hk; simp at hk
  | cons t r ih =>
    intro k hk i hi
    have e : flatRf (t :: r) = rfC t ++ flatRf r := by simp [flatRf]
    have hl : (rfC t).length = 3 := rfl
    rw [e]
    cases k with
    | zero => rw [List.getElem?_append_left (by omega)]; simp
    | succ k =>
      rw [List.getElem?_append_right (by omega), hl, show (k + 1) * 3 + i - 3 = k * 3 + i from by omega, ih k (by simpa using hk) i hi]
      simp

set_option maxRecDepth 100000 in
set_option maxHeartbeats 8000000 in
theorem wBatches (h : WM D E bw sy kb x gv jv qv bv sl w) (hR : RfOK x.p) (hG : GsOK x.p) (hn8 : x.p.nodes ≤ 8) :
    Calls Tryz.prog 45 #[.pointer (some ⟨bw, 0, none⟩)] w fun e w' => e = .returned (.bool true) ∧ WK D E bw sy kb x bv sl w w' := by
  have HW : Hid (WM D E bw sy kb x gv jv qv bv sl w) := h
  have HR : Hid (RfOK x.p) := hR
  have HG : Hid (GsOK x.p) := hG
  have c1 := h.c.2.1
  have hn1 := hR.n1
  obtain ⟨N, hN⟩ : ∃ N, N = x.p.nodes := ⟨_, rfl⟩
  rw [← hN] at c1 hn1 hn8
  have HNN : Hid (N = x.p.nodes) := hN
  clear h hR hG hN
  go_enter Tryz.func45, Tryz.ntmps45
  go_wp2_with fail
  refine (kRefusals N hn1 hn8 w).mono ?_
  rintro e y1 ⟨v, rfl, hrow, hY1⟩
  have HY1 : Hid (Below w.heap.size w y1) := hY1
  have HRF : Hid (∀ t ∈ rfs N, Rfd x.p t.1 t.2.1 t.2.2 []) := by
    rw [HNN.out]
    exact rfs_ok HR.out
  have HRS : Hid (∀ t ∈ rfs N, t.1.length ≤ 601) := rfs_size N
  have hl9 := rfs_len N
  obtain ⟨va, vc, hvf⟩ := row_formL hrow
  subst hvf
  have HC : Hid (∀ k, k < (rfs N).length → ∃ g, va = some ⟨g, 0, none⟩ ∧ (rfs N).length ≤ vc ∧ w.heap.size ≤ g ∧ g < y1.heap.size ∧ ∀ i, i < 3 → y1.cell? ⟨g, k * 3 + i, none⟩ = (rfC ((rfs N).getD k ([], 0, 0)))[i]?) := by
    intro k hk
    rcases hrow.2 with ⟨hv, hn0⟩ | ⟨g, cap, cur, hv, q1, q2, q3, q4, q5, q6⟩
    · omega
    · injection hv with e1 e2 e3
      subst e1
      refine ⟨g, rfl, by omega, q1, whole_lt q2, ?_⟩
      intro i hi
      rw [World.ownsRow.cellAt hrow (k * 3 + i) (by omega)]
      exact flatRf_get _ k hk i hi
  generalize rfs N = L at *
  obtain ⟨n, hn⟩ : ∃ n, n = L.length := ⟨_, rfl⟩
  rw [← hn] at hl9 HC ⊢
  have HLN : Hid (n = L.length) := hn
  have HW1 : Hid (WK (fun j => (D j ∧ j < w.heap.size) ∨ y1.heap.size ≤ j) (fun j => (E j ∧ j < w.heap.size) ∨ y1.heap.size ≤ j) bw sy kb x bv sl y1 y1) := WK.zero (HW.out.narrowD hY1)
  clear hn hrow hY1 c1
  go_wp2_with fail
  go_loopg [4] (n + 1) (fun r z wr => ∃ (k : Nat), k ≤ n ∧ r = n - k + 1 ∧ z = .int .i64 (k : Int) ∧ Hid (WK (fun j => (D j ∧ j < w.heap.size) ∨ y1.heap.size ≤ j) (fun j => (E j ∧ j < w.heap.size) ∨ y1.heap.size ≤ j) bw sy kb x bv sl y1 wr))
  case atStart => exact ⟨0, Nat.zero_le _, rfl, rfl, HW1⟩
  case round =>
    obtain ⟨k, hk, rfl, rfl, HK⟩ := hrel
    have c0 := HK.out.c0
    by_cases hlt : k < n
    · have hlt' : (k : Int) < (n : Int) := by omega
      obtain ⟨g, rfl, hcap, hgw, hgy, hcell⟩ := HC.out k hlt
      have hmem : L.getD k ([], 0, 0) ∈ L := by rw [show L.getD k ([], 0, 0) = L[k]'(by rw [← HLN.out]; exact hlt) from by simp [show k < L.length by rw [← HLN.out]; exact hlt]]; exact List.getElem_mem _
      have hrf := HRF.out _ hmem
      have hsz := HRS.out _ hmem
      have hgE : ¬ ((E g ∧ g < w.heap.size) ∨ y1.heap.size ≤ g) := by rintro (q | q) <;> omega
      have k0 := hcell 0 (by omega); have k1 := hcell 1 (by omega); have k2 := hcell 2 (by omega)
      obtain ⟨t, ht⟩ : ∃ t, t = L.getD k ([], 0, 0) := ⟨_, rfl⟩
      rw [← ht] at hrf hsz k0 k1 k2
      clear ht hcell hmem
      simp [rfC] at k0 k1 k2
      have HL : Hid (∀ y, WK (fun j => (D j ∧ j < w.heap.size) ∨ y1.heap.size ≤ j) (fun j => (E j ∧ j < w.heap.size) ∨ y1.heap.size ≤ j) bw sy kb x bv sl y1 y → y.cell? ⟨g, k * 3, none⟩ = some (.string (bs t.1)) ∧ y.cell? ⟨g, k * 3 + 1, none⟩ = some (.int .i64 (t.2.1 : Int)) ∧ y.cell? ⟨g, k * 3 + 2, none⟩ = some (.int .i64 (t.2.2 : Int))) := fun y hy => ⟨(hy.2.cell hgE).trans k0, (hy.2.cell hgE).trans k1, (hy.2.cell hgE).trans k2⟩
      obtain ⟨l0, l1, l2⟩ := HL.out _ HK.out
      have HRT : Hid (Rfd x.p (bs t.1).data.toList t.2.1 t.2.2 [] ∧ (bs t.1).size ≤ maxLen) := ⟨by rw [bs_list]; exact hrf, by rw [bs_size]; unfold maxLen; omega⟩
      clear k0 k1 k2 hrf hsz hgE
      obtain ⟨T, hT⟩ : ∃ T, T = bs t.1 := ⟨_, rfl⟩
      rw [← hT] at l0 HL HRT
      clear hT
      obtain ⟨er, her⟩ : ∃ er, er = t.2.1 := ⟨_, rfl⟩
      obtain ⟨at_, hat⟩ : ∃ at_, at_ = t.2.2 := ⟨_, rfl⟩
      rw [← her, ← hat] at HRT HL
      rw [← her] at l1
      rw [← hat] at l2
      clear her hat
      go_upto_region 5 with fail
      obtain ⟨D2, E2, HX1, HX2⟩ := HK.out.boxed (.cells #[.int .i64 0, .int .i64 0, .int .i64 0, .int .i64 0, .slice none 0 0] 95)
      have HBX : Hid (WK D2 E2 bw sy kb x bv sl (wr.alloc (.cells #[.int .i64 0, .int .i64 0, .int .i64 0, .int .i64 0, .slice none 0 0] 95)).drew (wr.alloc (.cells #[.int .i64 0, .int .i64 0, .int .i64 0, .int .i64 0, .slice none 0 0] 95)).drew) := HX1
      have HBY : Hid (∀ y, WK D2 E2 bw sy kb x bv sl (wr.alloc (.cells #[.int .i64 0, .int .i64 0, .int .i64 0, .int .i64 0, .slice none 0 0] 95)).drew y → y.heap[wr.heap.size]? = some (.cells #[.int .i64 0, .int .i64 0, .int .i64 0, .int .i64 0, .slice none 0 0] 95) ∧ ∀ y', Keep (fun j => j = wr.heap.size) y y' → WK (fun j => (D j ∧ j < w.heap.size) ∨ y1.heap.size ≤ j) (fun j => (E j ∧ j < w.heap.size) ∨ y1.heap.size ≤ j) bw sy kb x bv sl y1 y') := HX2
      clear HX1 HX2
      have hAB : Below wr.heap.size wr (wr.alloc (.cells #[.int .i64 0, .int .i64 0, .int .i64 0, .int .i64 0, .slice none 0 0] 95)) := (Below.refl _ wr).alloc (Nat.le_refl _) _
      have l0' := (hAB.cell (p := ⟨g, k * 3, none⟩) (World.block_lt_of_cell? wr _ l0)).trans l0
      have c0' := (hAB.cell (p := ⟨bw, 0, none⟩) (World.block_lt_of_cell? wr _ c0)).trans c0
      clear hAB
      go_cut [5] (fun s5 wx => ∃ (r : Nat) (ra : Option Addr) (rc : Nat), s5 = .pointer (some ⟨r, 0, none⟩) ∧ wx.heap[r]? = some (.cells #[.int .i64 (er : Int), .int .i64 (at_ : Int), .int .i64 0, .int .i64 0, .slice ra 0 rc] 95 (0, 0)) ∧ Hid (WK (fun j => (D j ∧ j < w.heap.size) ∨ y1.heap.size ≤ j) (fun j => (E j ∧ j < w.heap.size) ∨ y1.heap.size ≤ j) bw sy kb x bv sl y1 wx))
      case first =>
        go_region_with (go_at_call 52; first
          | (refine ((HK.out.below (Below.refl _ wr).drew).submit HR.out.ok HG.out T HRT.out.2 HRT.out.1).mono ?_; rintro e y2 ⟨rv, rfl, hrv, hK2⟩; obtain ⟨ra, rc, rfl⟩ := row_formL hrv; have HK2 : Hid (WK (fun j => (D j ∧ j < w.heap.size) ∨ y1.heap.size ≤ j) (fun j => (E j ∧ j < w.heap.size) ∨ y1.heap.size ≤ j) bw sy kb x bv sl y1 (y2.alloc (.cells #[.int .i64 (er : Int), .int .i64 (at_ : Int), .int .i64 0, .int .i64 0, .slice ra 0 rc] 95))) := hK2.alloc _; have Y2 := whole_new y2 (.cells #[.int .i64 (er : Int), .int .i64 (at_ : Int), .int .i64 0, .int .i64 0, .slice ra 0 rc] 95 (0, 0)); clear hrv hK2)
          | (refine (HBX.out.submit HR.out.ok HG.out T HRT.out.2 HRT.out.1).mono ?_; rintro e y2 ⟨rv, rfl, hrv, hK2⟩; obtain ⟨ra, rc, rfl⟩ := row_formL hrv; obtain ⟨Y1, HK3⟩ := HBY.out y2 hK2; have HK4 : Hid (∀ y', Keep (fun j => j = wr.heap.size) y2 y' → WK (fun j => (D j ∧ j < w.heap.size) ∨ y1.heap.size ≤ j) (fun j => (E j ∧ j < w.heap.size) ∨ y1.heap.size ≤ j) bw sy kb x bv sl y1 y') := HK3; clear HK3; have z0 := whole_frozen Y1 0; have z1 := whole_frozen Y1 1; have z2 := whole_frozen Y1 2; have z3 := whole_frozen Y1 3; have z4 := whole_frozen Y1 4; have b0 := whole_cell Y1 0; have b1 := whole_cell Y1 1; have b2 := whole_cell Y1 2; have b3 := whole_cell Y1 3; have b4 := whole_cell Y1 4; simp at b0 b1 b2 b3 b4; have Y2 := whole_set (whole_set (whole_set (whole_set (whole_set Y1 0 (.int .i64 (er : Int))) 1 (.int .i64 (at_ : Int))) 2 (.int .i64 0)) 3 (.int .i64 0)) 4 (.slice ra 0 rc); simp at Y2; have KK := (((((Keep.refl (fun j => j = wr.heap.size) y2).setCell (p := ⟨wr.heap.size, 0, none⟩) rfl (.int .i64 (er : Int))).setCell (p := ⟨wr.heap.size, 1, none⟩) rfl (.int .i64 (at_ : Int))).setCell (p := ⟨wr.heap.size, 2, none⟩) rfl (.int .i64 0)).setCell (p := ⟨wr.heap.size, 3, none⟩) rfl (.int .i64 0)).setCell (p := ⟨wr.heap.size, 4, none⟩) rfl (.slice ra 0 rc); have HK2 : Hid (WK (fun j => (D j ∧ j < w.heap.size) ∨ y1.heap.size ≤ j) (fun j => (E j ∧ j < w.heap.size) ∨ y1.heap.size ≤ j) bw sy kb x bv sl y1 _) := HK4.out _ KK; clear hrv hK2 KK))
        all_goals
          go_wp2_with fail
          go_meet
          case rel => exact ⟨_, _, _, rfl, Y2, HK2⟩
      case rest =>
        obtain ⟨r, ra, rc, rfl, Y2, HK2⟩ := hcut
        rename World => y2
        obtain ⟨l0, l1, l2⟩ := HL.out _ HK2.out
        have a0 := whole_cell Y2 0; have a1 := whole_cell Y2 1; have a2 := whole_cell Y2 2; have a3 := whole_cell Y2 3; have a4 := whole_cell Y2 4
        simp at a0 a1 a2 a3 a4
        have HK3 : Hid (WK (fun j => (D j ∧ j < w.heap.size) ∨ y1.heap.size ≤ j) (fun j => (E j ∧ j < w.heap.size) ∨ y1.heap.size ≤ j) bw sy kb x bv sl y1 y2.drew) := HK2.out.below (Below.refl _ y2).drew
        have b3 : ¬ n ≤ k := by omega
        clear HL HBX HBY HRT l0' c0'
        go_wp2_with fail
        go_region
        go_wp2_with fail
        go_roundg (n - (k + 1) + 1)
        case measure => omega
        case rel => exact ⟨k + 1, by omega, rfl, by go_num, HK3⟩
    · have hlt' : ¬ (k : Int) < (n : Int) := by omega
      have HRT : Hid (Rfd x.p (⟨#[35, 74, 32, 113, 32, 110, 111, 100, 101, 115, 61, 49, 32, 116, 105, 109, 101, 61, 49, 32, 97, 102, 116, 101, 114, 61, 110, 111, 116, 58, 113, 124, 115, 105, 110, 103, 108, 101]⟩ : ByteArray).data.toList 7 0 [0]) := rfd_c HR.out
      clear HC HRF HRS
      go_wp2_with fail
      refine (HK.out.submit HR.out.ok HG.out _ (by show 38 ≤ maxLen; unfold maxLen; omega) HRT.out).mono ?_
      rintro e y2 ⟨rv, rfl, hrv, hK2⟩
      have HK2 : Hid (WK (fun j => (D j ∧ j < w.heap.size) ∨ y1.heap.size ≤ j) (fun j => (E j ∧ j < w.heap.size) ∨ y1.heap.size ≤ j) bw sy kb x bv sl y1 y2) := hK2
      rcases hrv.2 with ⟨_, hn0⟩ | ⟨g, cap, cur, hv, q1, q2, q3, q4, q5, q6⟩
      · simp at hn0
      · have hcell := World.ownsRow.cellAt (by rw [hv] at hrv; exact hrv) 0 (by simp)
        simp [iV] at hcell q3
        subst hv
        have hgl := whole_lt q2
        clear q2 q5 q6 hrv hK2 q1 c0
        have HK3 : Hid (WK (fun j => (D j ∧ j < w.heap.size) ∨ y1.heap.size ≤ j) (fun j => (E j ∧ j < w.heap.size) ∨ y1.heap.size ≤ j) bw sy kb x bv sl y1 (y2.alloc (.cells #[.int .i64 7, .int .i64 0, .int .i64 0, .int .i64 0, .slice (some ⟨g, 0, none⟩) 1 cap] 95))) := HK2.out.alloc _
        have hc2 := (((Below.refl _ y2).alloc (Nat.le_refl _) (.cells #[.int .i64 7, .int .i64 0, .int .i64 0, .int .i64 0, .slice (some ⟨g, 0, none⟩) 1 cap] 95)).cell (p := ⟨g, 0, none⟩) hgl).trans hcell
        go_wp2_with fail
        go_ret
        exact ⟨rfl, WK.outer HW.out HY1.out HK3.out⟩
end Go.Proofs.YtanknpmojblmcabGreatDoor

/-
  Two systems that tell the same of themselves: sameSeen, alike.
-/
set_option linter.unusedSimpArgs false
set_option linter.unusedVariables false
namespace Go.Proofs.YtanknpmojblmcabGreatDoor
open Go.RowKit

variable {D E D2 E2 : Nat → Prop} {bw sy kb bw2 sy2 kb2 : Nat} {x : WS} {gv jv qv bv gv2 jv2 qv2 bv2 : Value} {sl sl2 : Nat → Sl} {w w' : World}

theorem Sts.fin {v : Value} {l : List PJ} (h : Sts v l w) : ∃ a c, v = .slice a l.length c := h.form
set_option maxRecDepth 100000 in
set_option maxHeartbeats 8000000 in
theorem kSameSeen (p : PS) (l1 q1 c1 l2 q2 c2 : Value) (cs : List (List UInt8)) (w : World) (hl : p.js.length ≤ 24) (hq : p.qs.length ≤ 24) (hc : cs.length ≤ 24) (L1 : Sts l1 p.js w) (L2 : Sts l2 p.js w) (Q1 : Ns q1 p.qs w) (Q2 : Ns q2 p.qs w) (C1 : Txs c1 cs w) (C2 : Txs c2 cs w) :
    Calls Tryz.prog 38 #[.agg (snA p l1 q1 c1), .agg (snA p l2 q2 c2)] w fun e w' => e = .returned (.bool true) ∧ Below w.heap.size w w' := by
  have HL1 : Hid (Sts l1 p.js w) := L1
  have HL2 : Hid (Sts l2 p.js w) := L2
  have HQ1 : Hid (Ns q1 p.qs w) := Q1
  have HQ2 : Hid (Ns q2 p.qs w) := Q2
  have HC1 : Hid (Txs c1 cs w) := C1
  have HC2 : Hid (Txs c2 cs w) := C2
  have hll : Hid (p.js.length ≤ 24 ∧ p.qs.length ≤ 24 ∧ cs.length ≤ 24) := ⟨hl, hq, hc⟩
  obtain ⟨a1, b1, e1⟩ := L1.form
  obtain ⟨a2, b2, e2⟩ := L2.form
  obtain ⟨a3, b3, e3⟩ := Q1.form
  obtain ⟨a4, b4, e4⟩ := Q2.form
  obtain ⟨a5, b5, e5⟩ := C1.form
  obtain ⟨a6, b6, e6⟩ := C2.form
  unfold snA
  obtain ⟨n0, hn0⟩ : ∃ n0, n0 = p.js.length := ⟨_, rfl⟩
  obtain ⟨m0, hm0⟩ : ∃ m0, m0 = p.qs.length := ⟨_, rfl⟩
  obtain ⟨k0, hk0⟩ : ∃ k0, k0 = cs.length := ⟨_, rfl⟩
  rw [← hn0] at e1 e2
  rw [← hm0] at e3 e4
  rw [← hk0] at e5 e6
  rw [← hn0]
  clear hn0 hm0 hk0 L1 L2 Q1 Q2 C1 C2 hl hq hc
  generalize p.now = t0
  generalize freeF p.nodes p.js = f0
  subst e1 e2 e3 e4 e5 e6
  have Y1 := whole_alloc (whole_new w (.cells #[.slice a1 n0 b1, .slice a3 m0 b3, .int .i64 t0, .int .i64 f0, .int .i64 (n0 : Int), .slice a5 k0 b5] 78 (0, 0))) (.cells #[.slice a2 n0 b2, .slice a4 m0 b4, .int .i64 t0, .int .i64 f0, .int .i64 (n0 : Int), .slice a6 k0 b6] 78)
  have Y2 := whole_new (w.alloc (.cells #[.slice a1 n0 b1, .slice a3 m0 b3, .int .i64 t0, .int .i64 f0, .int .i64 (n0 : Int), .slice a5 k0 b5] 78)) (.cells #[.slice a2 n0 b2, .slice a4 m0 b4, .int .i64 t0, .int .i64 f0, .int .i64 (n0 : Int), .slice a6 k0 b6] 78 (0, 0))
  rw [World.size_alloc] at Y2
  have HB : Below w.heap.size w ((w.alloc (.cells #[.slice a1 n0 b1, .slice a3 m0 b3, .int .i64 t0, .int .i64 f0, .int .i64 (n0 : Int), .slice a5 k0 b5] 78)).alloc (.cells #[.slice a2 n0 b2, .slice a4 m0 b4, .int .i64 t0, .int .i64 f0, .int .i64 (n0 : Int), .slice a6 k0 b6] 78)) := ((Below.refl _ w).alloc (Nat.le_refl _) _).alloc (by simp) _
  go_enter Tryz.func38, Tryz.ntmps38
  go_wp2_with fail
  obtain ⟨r1, hr1⟩ : ∃ r1, r1 = w.heap.size := ⟨_, rfl⟩
  rw [← hr1] at Y1 Y2 ⊢
  obtain ⟨r2, hr2⟩ : ∃ r2, r2 = r1 + 1 := ⟨_, rfl⟩
  rw [← hr2] at Y2 ⊢
  clear hr1 hr2
  generalize (w.alloc (.cells #[.slice a1 n0 b1, .slice a3 m0 b3, .int .i64 t0, .int .i64 f0, .int .i64 (n0 : Int), .slice a5 k0 b5] 78)).alloc (.cells #[.slice a2 n0 b2, .slice a4 m0 b4, .int .i64 t0, .int .i64 f0, .int .i64 (n0 : Int), .slice a6 k0 b6] 78) = y0 at *
  refine (kSameAll _ _ p.js y0 (HL1.out.below HB) (HL2.out.below HB) (by have := hll.out; omega)).mono ?_
  rintro e y1 ⟨rfl, hY1⟩
  replace Y1 := (hY1.block _ (whole_lt Y1)).trans Y1
  replace Y2 := (hY1.block _ (whole_lt Y2)).trans Y2
  have HB1 := HB.trans (hY1.mono HB.size)
  clear hY1 HB
  have u1 := whole_cell Y1 1; have v1 := whole_cell Y2 1
  simp at u1 v1
  go_wp2_with fail
  refine (kSameInts _ _ p.qs y1 (HQ1.out.below HB1) (HQ2.out.below HB1) (by have := hll.out; omega)).mono ?_
  rintro e y2 ⟨rfl, hY2⟩
  replace Y1 := (hY2.block _ (whole_lt Y1)).trans Y1
  replace Y2 := (hY2.block _ (whole_lt Y2)).trans Y2
  have HB2 := HB1.trans (hY2.mono HB1.size)
  clear hY2 HB1 u1 v1
  have u5 := whole_cell Y1 5; have v5 := whole_cell Y2 5
  simp at u5 v5
  go_wp2_with fail
  refine (kSameTexts _ _ cs y2 (HC1.out.below HB2) (HC2.out.below HB2) (by have := hll.out; omega)).mono ?_
  rintro e y3 ⟨rfl, hY3⟩
  replace Y1 := (hY3.block _ (whole_lt Y1)).trans Y1
  replace Y2 := (hY3.block _ (whole_lt Y2)).trans Y2
  have HB3 := HB2.trans (hY3.mono HB2.size)
  clear hY3 HB2 u5 v5
  have u2 := whole_cell Y1 2; have v2 := whole_cell Y2 2
  have u3 := whole_cell Y1 3; have v3 := whole_cell Y2 3
  have u4 := whole_cell Y1 4; have v4 := whole_cell Y2 4
  simp at u2 v2 u3 v3 u4 v4
  go_wp2_with fail
  go_ret
  exact ⟨rfl, HB3⟩

set_option maxRecDepth 100000 in
set_option maxHeartbeats 8000000 in
theorem kAlike (h : WM D E bw sy kb x gv jv qv bv sl w) (h2 : WM D2 E2 bw2 sy2 kb2 x gv2 jv2 qv2 bv2 sl2 w) (hw : WOK x) (hC : ∀ k, k < x.p.js.length → (x.p.js.getD k pj0).code ≠ []) :
    Calls Tryz.prog 16 #[.pointer (some ⟨bw, 0, none⟩), .pointer (some ⟨bw2, 0, none⟩)] w fun e w' => e = .returned (.bool true) ∧ Below w.heap.size w w' := by
  have HW : Hid (WM D E bw sy kb x gv jv qv bv sl w) := h
  have HW2 : Hid (WM D2 E2 bw2 sy2 kb2 x gv2 jv2 qv2 bv2 sl2 w) := h2
  have HK : Hid (WOK x) := hw
  have HC : Hid (∀ k, k < x.p.js.length → (x.p.js.getD k pj0).code ≠ []) := hC
  clear h h2 hw hC
  go_enter Tryz.func16, Tryz.ntmps16
  go_wp2_with fail
  refine (wSeen HW.out HK.out HC.out).mono ?_
  rintro e y1 ⟨l1, q1, c1, rfl, hs1, hY1⟩
  have HS1 : Hid (Sts l1 x.p.js y1 ∧ Ns q1 x.p.qs y1) := ⟨Sts.of hs1.l, Ns.of hs1.q⟩
  unfold snA
  have HN1 : (∀ g, l1.ownBlock = some g → g < y1.heap.size) ∧ (∀ g, q1.ownBlock = some g → g < y1.heap.size) := ⟨fun g hg => (hs1.l.lt g hg).2, fun g hg => (hs1.q.lt g hg).2⟩
  obtain ⟨a1, b1, e1⟩ := row_formL hs1.l
  obtain ⟨a3, b3, e3⟩ := row_formL hs1.q
  obtain ⟨a5, b5, e5⟩ := row_formL hs1.c
  clear hs1
  subst e1 e3 e5
  obtain ⟨n0, hn0⟩ : ∃ n0, n0 = x.p.js.length := ⟨_, rfl⟩
  obtain ⟨m0, hm0⟩ : ∃ m0, m0 = x.p.qs.length := ⟨_, rfl⟩
  obtain ⟨t0, ht0⟩ : ∃ t0, t0 = x.p.now := ⟨_, rfl⟩
  obtain ⟨f0, hf0⟩ : ∃ f0, f0 = freeF x.p.nodes x.p.js := ⟨_, rfl⟩
  rw [← hn0, ← hm0] at HS1 HN1
  rw [← hn0, ← hm0, ← ht0, ← hf0]
  have HLT : Hid (n0 = x.p.js.length ∧ m0 = x.p.qs.length ∧ t0 = x.p.now ∧ f0 = freeF x.p.nodes x.p.js) := ⟨hn0, hm0, ht0, hf0⟩
  clear hn0 hm0 ht0 hf0
  have Y1 := whole_new y1 (.cells #[.slice a1 n0 b1, .slice a3 m0 b3, .int .i64 t0, .int .i64 f0, .int .i64 (n0 : Int), .slice a5 n0 b5] 78 (0, 0))
  have HB1 : Below w.heap.size w (y1.alloc (.cells #[.slice a1 n0 b1, .slice a3 m0 b3, .int .i64 t0, .int .i64 f0, .int .i64 (n0 : Int), .slice a5 n0 b5] 78)) := hY1.alloc hY1.size _
  have HS2 : Hid (Sts _ x.p.js (y1.alloc (.cells #[.slice a1 n0 b1, .slice a3 m0 b3, .int .i64 t0, .int .i64 f0, .int .i64 (n0 : Int), .slice a5 n0 b5] 78)) ∧ Ns _ x.p.qs (y1.alloc (.cells #[.slice a1 n0 b1, .slice a3 m0 b3, .int .i64 t0, .int .i64 f0, .int .i64 (n0 : Int), .slice a5 n0 b5] 78))) := ⟨HS1.out.1.below ((Below.refl _ y1).alloc (Nat.le_refl _) _), HS1.out.2.below ((Below.refl _ y1).alloc (Nat.le_refl _) _)⟩
  have hz1 := hY1.size
  go_wp2_with fail
  obtain ⟨r1, hr1⟩ : ∃ r1, r1 = y1.heap.size := ⟨_, rfl⟩
  rw [← hr1] at Y1 HN1 ⊢
  have HNA : Hid ((∀ g, (Value.slice a1 n0 b1).ownBlock = some g → g < r1) ∧ (∀ g, (Value.slice a3 m0 b3).ownBlock = some g → g < r1)) := HN1
  clear HN1
  have hr1w : w.heap.size ≤ r1 := by omega
  clear hr1 hY1 HS1
  generalize y1.alloc (.cells #[.slice a1 n0 b1, .slice a3 m0 b3, .int .i64 t0, .int .i64 f0, .int .i64 (n0 : Int), .slice a5 n0 b5] 78) = y2 at *
  have hr12a := whole_lt Y1
  refine (wSeen (HW2.out.below HB1) HK.out HC.out).mono ?_
  rintro e y3 ⟨l2, q2, c2, rfl, hs2, hY3⟩
  have HS3 : Hid (Sts l2 x.p.js y3 ∧ Ns q2 x.p.qs y3) := ⟨Sts.of hs2.l, Ns.of hs2.q⟩
  have HS4 : Hid (Sts _ x.p.js y3 ∧ Ns _ x.p.qs y3) := ⟨HS2.out.1.below hY3, HS2.out.2.below hY3⟩
  unfold snA
  have HN2 : (∀ g, l2.ownBlock = some g → r1 < g ∧ g < y3.heap.size) ∧ (∀ g, q2.ownBlock = some g → r1 < g ∧ g < y3.heap.size) := ⟨fun g hg => ⟨by have := (hs2.l.lt g hg).1; omega, (hs2.l.lt g hg).2⟩, fun g hg => ⟨by have := (hs2.q.lt g hg).1; omega, (hs2.q.lt g hg).2⟩⟩
  obtain ⟨a2, b2, e2⟩ := row_formL hs2.l
  obtain ⟨a4, b4, e4⟩ := row_formL hs2.q
  obtain ⟨a6, b6, e6⟩ := row_formL hs2.c
  clear hs2
  subst e2 e4 e6
  rw [← HLT.out.1, ← HLT.out.2.1] at HS3 HN2
  rw [← HLT.out.1, ← HLT.out.2.1, ← HLT.out.2.2.1, ← HLT.out.2.2.2]
  replace Y1 := (hY3.block _ (whole_lt Y1)).trans Y1
  have hr1y := whole_lt Y1
  replace Y1 := whole_alloc Y1 (.cells #[.slice a2 n0 b2, .slice a4 m0 b4, .int .i64 t0, .int .i64 f0, .int .i64 (n0 : Int), .slice a6 n0 b6] 78)
  have Y2 := whole_new y3 (.cells #[.slice a2 n0 b2, .slice a4 m0 b4, .int .i64 t0, .int .i64 f0, .int .i64 (n0 : Int), .slice a6 n0 b6] 78 (0, 0))
  have HB3 := HB1.trans (hY3.mono HB1.size)
  have HB4 : Below w.heap.size w (y3.alloc (.cells #[.slice a2 n0 b2, .slice a4 m0 b4, .int .i64 t0, .int .i64 f0, .int .i64 (n0 : Int), .slice a6 n0 b6] 78)) := HB3.alloc HB3.size _
  have hz3 := HB3.size
  have BA := (Below.refl _ y3).alloc (Nat.le_refl _) (.cells #[.slice a2 n0 b2, .slice a4 m0 b4, .int .i64 t0, .int .i64 f0, .int .i64 (n0 : Int), .slice a6 n0 b6] 78)
  have HS5 : Hid (Sts (.slice a1 n0 b1) x.p.js (y3.alloc (.cells #[.slice a2 n0 b2, .slice a4 m0 b4, .int .i64 t0, .int .i64 f0, .int .i64 (n0 : Int), .slice a6 n0 b6] 78)) ∧ Ns (.slice a3 m0 b3) x.p.qs (y3.alloc (.cells #[.slice a2 n0 b2, .slice a4 m0 b4, .int .i64 t0, .int .i64 f0, .int .i64 (n0 : Int), .slice a6 n0 b6] 78)) ∧ Sts (.slice a2 n0 b2) x.p.js (y3.alloc (.cells #[.slice a2 n0 b2, .slice a4 m0 b4, .int .i64 t0, .int .i64 f0, .int .i64 (n0 : Int), .slice a6 n0 b6] 78)) ∧ Ns (.slice a4 m0 b4) x.p.qs (y3.alloc (.cells #[.slice a2 n0 b2, .slice a4 m0 b4, .int .i64 t0, .int .i64 f0, .int .i64 (n0 : Int), .slice a6 n0 b6] 78))) := ⟨HS4.out.1.below BA, HS4.out.2.below BA, HS3.out.1.below BA, HS3.out.2.below BA⟩
  clear hY3 HB1 HS2 HS3 HS4 BA HB3
  go_upto_region 3 with fail
  obtain ⟨r2, hr2⟩ : ∃ r2, r2 = y3.heap.size := ⟨_, rfl⟩
  rw [← hr2] at Y2 HN2 ⊢
  have HNB : Hid ((∀ g, (Value.slice a2 n0 b2).ownBlock = some g → r1 < g ∧ g < r2) ∧ (∀ g, (Value.slice a4 m0 b4).ownBlock = some g → r1 < g ∧ g < r2)) := HN2
  clear HN2
  have hr12 : r1 ≠ r2 := by omega
  have hr12l : r1 < r2 := by omega
  have hr2w : w.heap.size ≤ r2 := by omega
  clear hr2
  generalize y3.alloc (.cells #[.slice a2 n0 b2, .slice a4 m0 b4, .int .i64 t0, .int .i64 f0, .int .i64 (n0 : Int), .slice a6 n0 b6] 78) = y4 at *
  have z1 := whole_frozen Y1 5
  have k1 := whole_cell Y1 5
  simp at k1
  have Y3 := whole_set Y1 5 (.slice none 0 0)
  simp at Y3
  have Y4 := whole_set_ne Y2 ⟨r1, 5, none⟩ hr12 (.slice none 0 0)
  have z2 := whole_frozen Y4 5
  have k2 := whole_cell Y4 5
  simp at k2
  have Y5 := whole_set Y4 5 (.slice none 0 0)
  simp at Y5
  have Y6 := whole_set_ne Y3 ⟨r2, 5, none⟩ (fun e => hr12 e.symm) (.slice none 0 0)
  have HB5 := (HB4.setCell (p := ⟨r1, 5, none⟩) hr1w (.slice none 0 0)).setCell (p := ⟨r2, 5, none⟩) hr2w (.slice none 0 0)
  have KK : Keep (fun j => j = r1 ∨ j = r2) y4 ((y4.setCell ⟨r1, 5, none⟩ (.slice none 0 0)).setCell ⟨r2, 5, none⟩ (.slice none 0 0)) := ((Keep.refl _ y4).setCell (p := ⟨r1, 5, none⟩) (Or.inl rfl) _).setCell (p := ⟨r2, 5, none⟩) (Or.inr rfl) _
  have c0 := whole_cell Y6 0; have c1 := whole_cell Y6 1; have c2 := whole_cell Y6 2; have c3 := whole_cell Y6 3; have c4 := whole_cell Y6 4; have c5 := whole_cell Y6 5
  have d0 := whole_cell Y5 0; have d1 := whole_cell Y5 1; have d2 := whole_cell Y5 2; have d3 := whole_cell Y5 3; have d4 := whole_cell Y5 4; have d5 := whole_cell Y5 5
  simp only [List.getElem?_toArray, List.getElem?_cons_succ, List.getElem?_cons_zero] at c0 c1 c2 c3 c4 c5 d0 d1 d2 d3 d4 d5
  go_wp2_with fail
  have hl24 := HK.out.wi.st.ok.n.ln
  have hq24 := HK.out.wi.st.ok.ql
  have HEQ : Hid ((Value.agg #[.slice a1 n0 b1, .slice a3 m0 b3, .int .i64 t0, .int .i64 f0, .int .i64 (n0 : Int), .slice none 0 0] = .agg (snA x.p (.slice a1 n0 b1) (.slice a3 m0 b3) (.slice none 0 0))) ∧ (Value.agg #[.slice a2 n0 b2, .slice a4 m0 b4, .int .i64 t0, .int .i64 f0, .int .i64 (n0 : Int), .slice none 0 0] = .agg (snA x.p (.slice a2 n0 b2) (.slice a4 m0 b4) (.slice none 0 0)))) := by
    constructor <;> (unfold snA; rw [← HLT.out.1, ← HLT.out.2.2.1, ← HLT.out.2.2.2])
  have call := kSameSeen x.p (.slice a1 n0 b1) (.slice a3 m0 b3) (.slice none 0 0) (.slice a2 n0 b2) (.slice a4 m0 b4) (.slice none 0 0) [] ((y4.setCell ⟨r1, 5, none⟩ (.slice none 0 0)).setCell ⟨r2, 5, none⟩ (.slice none 0 0)) hl24 hq24 (by simp)
    (HS5.out.1.keepD (fun g hg => by have := HNA.out.1 g hg; rintro (q | q) <;> omega) KK) (HS5.out.2.2.1.keepD (fun g hg => by have := HNB.out.1 g hg; rintro (q | q) <;> omega) KK)
    (HS5.out.2.1.keepD (fun g hg => by have := HNA.out.2 g hg; rintro (q | q) <;> omega) KK) (HS5.out.2.2.2.keepD (fun g hg => by have := HNB.out.2 g hg; rintro (q | q) <;> omega) KK) (Or.inl ⟨rfl, rfl⟩) (Or.inl ⟨rfl, rfl⟩)
  rw [← HEQ.out.1, ← HEQ.out.2] at call
  refine call.mono ?_
  rintro e y6 ⟨rfl, hY6⟩
  have HB6 := HB5.trans (hY6.mono HB5.size)
  clear hY6 call c0 c1 c2 c3 c4 c5 d0 d1 d2 d3 d4 d5 z1 z2 k1 k2 Y1 Y2 Y3 Y4 Y5 Y6 HB4 HB5 KK
  go_wp2_with fail
  go_ret
  exact ⟨rfl, HB6⟩
end Go.Proofs.YtanknpmojblmcabGreatDoor

/-
  Apart: what happens to one system changes no other.
-/
set_option linter.unusedSimpArgs false
set_option linter.unusedVariables false
namespace Go.Proofs.YtanknpmojblmcabGreatDoor
open Go.RowKit

/-- The jobs of a world have codes. -/
theorem code_ne {x : WS} (h : WOK x) (hD : DecJ x.p.js) : ∀ k, k < x.p.js.length → (x.p.js.getD k pj0).code ≠ [] := by
  intro k hk e
  have hM := hD.c k hk
  rw [e] at hM
  have hst : areS (stI x.p.js) = true := h.wi.st.ok.okl.are
  have := hM.er (stI x.p.js) (by rw [stI_len]; omega) hst
  simp [runE, runM] at this

set_option maxRecDepth 100000 in
set_option maxHeartbeats 8000000 in
theorem Apart_walk (c : Int) (hc1 : -9223372036854775808 ≤ c) (hc2 : c ≤ 9223372036854775807) (a1 : Option Addr) (l1 c1 : Nat) (a2 : Option Addr) (l2 c2 : Nat) (w : World) (hM1 : IsMvs w a1 l1 c1) (hM2 : IsMvs w a2 l2 c2) :
    Calls Tryz.prog 8 #[.int .i64 c, .slice a1 l1 c1, .slice a2 l2 c2] w fun e w' => e = .returned (.bool true) ∧ Below w.heap.size w w' := by
  have hcap1 := hM1.cap_
  have hcap2 := hM2.cap_
  unfold maxLen at hcap1 hcap2
  have HM1 : Hid (IsMvs w a1 l1 c1) := hM1
  have HM2 : Hid (IsMvs w a2 l2 c2) := hM2
  clear hM1 hM2
  go_enter Tryz.func8, Tryz.ntmps8
  go_wp2_with fail
  refine (wBegin c hc1 hc2 w).mono ?_
  rintro e x1 ⟨b1, s1, k1, rfl, hW1, hB1⟩
  have HW1 : Hid (WMe (fun j => w.heap.size ≤ j) b1 s1 ⟨newP (1 + pikD c % 8), [], 0⟩ x1) := ⟨_, _, _, _, _, _, _, hW1⟩
  have HB1 : Hid (Below w.heap.size w x1) := hB1
  clear hW1 hB1
  go_wp2_with fail
  refine (wBegin c hc1 hc2 x1).mono ?_
  rintro e x2 ⟨b2, s2, k2, rfl, hW2, hB2⟩
  have HW2 : Hid (WMe (fun j => x1.heap.size ≤ j) b2 s2 ⟨newP (1 + pikD c % 8), [], 0⟩ x2) := ⟨_, _, _, _, _, _, _, hW2⟩
  have HB2 : Hid (Below x1.heap.size x1 x2) := hB2
  clear hW2 hB2
  go_wp2_with fail
  have hd1 : -9223372036854775808 ≤ wrap64 (c + 1) := by unfold wrap64; omega
  have hd2 : wrap64 (c + 1) ≤ 9223372036854775807 := by unfold wrap64; omega
  obtain ⟨d, hd⟩ : ∃ d, d = wrap64 (c + 1) := ⟨_, rfl⟩
  rw [← hd] at hd1 hd2 ⊢
  clear hd
  refine (wBegin d hd1 hd2 x2).mono ?_
  rintro e x3 ⟨b3, s3, k3, rfl, hW3, hB3⟩
  have hN : pikD c % 8 < 8 := Nat.mod_lt _ (by omega)
  have hN2 : pikD d % 8 < 8 := Nat.mod_lt _ (by omega)
  have HK0 : Hid (WOK ⟨newP (1 + pikD c % 8), [], 0⟩) := new_wok _ (by omega) (by omega)
  have HZ0 : Hid (WOK ⟨newP (1 + pikD d % 8), [], 0⟩) := new_wok _ (by omega) (by omega)
  have HD0 : Hid (DecJ (newP (1 + pikD c % 8)).js) := dec_nil
  have HB0 : Hid (Below w.heap.size w x3) := (HB1.out.trans (HB2.out.mono HB1.out.size)).trans (hB3.mono (Nat.le_trans HB1.out.size HB2.out.size))
  have HT0 : Hid (Tri w.heap.size b1 s1 b2 s2 b3 s3 ⟨newP (1 + pikD c % 8), [], 0⟩ ⟨newP (1 + pikD c % 8), [], 0⟩ ⟨newP (1 + pikD d % 8), [], 0⟩ x3) := by
    have q1 := HB1.out.size
    have q2 := HB2.out.size
    have q3 := hB3.size
    refine ⟨_, _, _, ⟨(HW1.out.nar HB2.out.size (fun b _ hl => HB2.out.block b hl)).nar hB3.size (fun b _ hl => hB3.block b hl), HW2.out.nar hB3.size (fun b _ hl => hB3.block b hl), ⟨_, _, _, _, _, _, _, hW3⟩, ?_, ?_, ?_, ?_, ?_, ?_, by omega⟩⟩ <;> (intro j; try unfold nr; intro h; try intro h2) <;> omega
  clear hW3 hB3 HW1 HW2 HB1 HB2 hN hN2
  go_wp2_with fail
  go_loopg [11] (l1 + 1) (fun r s wr => ∃ (k : Nat) (x z : WS), k ≤ l1 ∧ r = l1 - k + 1 ∧ s = .int .i64 (k : Int) ∧ Hid (WOK x) ∧ Hid (WOK z) ∧ Hid (DecJ x.p.js) ∧ Hid (Tri w.heap.size b1 s1 b2 s2 b3 s3 x x z wr) ∧ Hid (Below w.heap.size w wr))
  case atStart => exact ⟨0, _, _, Nat.zero_le _, rfl, rfl, HK0, HZ0, HD0, HT0, HB0⟩
  case round =>
    obtain ⟨k, x, z, hk, rfl, rfl, HK, HZ, HD, HT, HB⟩ := hrel
    by_cases hlt : k < l1
    · have hlt' : (k : Int) < (l1 : Int) := by omega
      obtain ⟨b, off, m, rfl, hl, hm, hbl, hmo, h1, h2, h3, h4⟩ := HM1.out.at_ hlt
      have HMC : Hid (w.cell? ⟨b, off + k * 4, none⟩ = some (.int .i64 m.kind) ∧ w.cell? ⟨b, off + k * 4 + 1, none⟩ = some (.int .i64 m.a) ∧ w.cell? ⟨b, off + k * 4 + 2, none⟩ = some (.int .i64 m.b) ∧ w.cell? ⟨b, off + k * 4 + 3, none⟩ = some (.string m.s)) := ⟨h1, h2, h3, h4⟩
      replace h1 := (HB.out.cell (p := ⟨b, off + k * 4, none⟩) hbl).trans h1
      replace h2 := (HB.out.cell (p := ⟨b, off + k * 4 + 1, none⟩) hbl).trans h2
      replace h3 := (HB.out.cell (p := ⟨b, off + k * 4 + 2, none⟩) hbl).trans h3
      replace h4 := (HB.out.cell (p := ⟨b, off + k * 4 + 3, none⟩) hbl).trans h4
      have HMO : Hid (MvOK m) := hmo
      have HSTEP : Hid (WOK (stepW x m)) := (step_ok HK.out m).1
      have HDS : Hid (DecJ (stepW x m).p.js) := step_dec HK.out HD.out m
      clear hmo
      go_wp2_with fail
      refine (HT.out.move HK.out m HMO.out).mono ?_
      rintro e y1 ⟨rfl, hT1, hK1⟩
      have HT1 : Hid (Tri w.heap.size b1 s1 b2 s2 b3 s3 (stepW x m) x z y1) := hT1
      have HB1 : Hid (Below w.heap.size w y1) := HB.out.trans hK1
      clear hT1 hK1 h1 h2 h3 h4 HT HB
      go_upto_if 55 with fail
      go_cut [13] (fun s13 wx => s13 = .bool true ∧ ∃ z', Hid (WOK z') ∧ Hid (Tri w.heap.size b1 s1 b2 s2 b3 s3 (stepW x m) x z' wx) ∧ Hid (Below w.heap.size w wx))
      case first =>
        by_cases hlt2 : k < l2
        · have hlt2' : (k : Int) < (l2 : Int) := by omega
          obtain ⟨b', off', m', rfl, hl2, hm2, hbl2, hmo2, h1, h2, h3, h4⟩ := HM2.out.at_ hlt2
          replace h1 := (HB1.out.cell (p := ⟨b', off' + k * 4, none⟩) hbl2).trans h1
          replace h2 := (HB1.out.cell (p := ⟨b', off' + k * 4 + 1, none⟩) hbl2).trans h2
          replace h3 := (HB1.out.cell (p := ⟨b', off' + k * 4 + 2, none⟩) hbl2).trans h3
          replace h4 := (HB1.out.cell (p := ⟨b', off' + k * 4 + 3, none⟩) hbl2).trans h4
          have HMO2 : Hid (MvOK m') := hmo2
          have HZS : Hid (WOK (stepW z m')) := (step_ok HZ.out m').1
          clear hmo2
          go_wp2_with fail
          refine (HT1.out.rot.rot.move HZ.out m' HMO2.out).mono ?_
          rintro e y2 ⟨rfl, hT2, hK2⟩
          have HT2 : Hid (Tri w.heap.size b1 s1 b2 s2 b3 s3 (stepW x m) x (stepW z m') y2) := hT2.rot
          have HB2 : Hid (Below w.heap.size w y2) := HB1.out.trans hK2
          clear hT2 hK2 h1 h2 h3 h4
          go_wp2_with fail
          go_meet
          case rel => exact ⟨rfl, _, HZS, HT2, HB2⟩
        · have hlt2' : ¬ (k : Int) < (l2 : Int) := by omega
          go_wp2_with fail
          go_meet
          case rel => exact ⟨rfl, _, HZ, HT1, HB1⟩
      case rest =>
        obtain ⟨rfl, z', HZ', HT2, HB2⟩ := hcut
        rename World => y2
        have h1 := (HB2.out.cell (p := ⟨b, off + k * 4, none⟩) hbl).trans HMC.out.1
        have h2 := (HB2.out.cell (p := ⟨b, off + k * 4 + 1, none⟩) hbl).trans HMC.out.2.1
        have h3 := (HB2.out.cell (p := ⟨b, off + k * 4 + 2, none⟩) hbl).trans HMC.out.2.2.1
        have h4 := (HB2.out.cell (p := ⟨b, off + k * 4 + 3, none⟩) hbl).trans HMC.out.2.2.2
        clear HT1 HB1
        go_wp2_with fail
        refine (HT2.out.rot.move HK.out m HMO.out).mono ?_
        rintro e y3 ⟨rfl, hT3, hK3⟩
        have HT3 : Hid (Tri w.heap.size b1 s1 b2 s2 b3 s3 (stepW x m) (stepW x m) z' y3) := hT3.rot.rot
        have HB3 : Hid (Below w.heap.size w y3) := HB2.out.trans hK3
        clear hT3 hK3 h1 h2 h3 h4 HT2 HB2
        obtain ⟨x', hx'⟩ : ∃ x', x' = stepW x m := ⟨_, rfl⟩
        rw [← hx'] at HT3 HSTEP HDS
        clear hx' HK HD
        obtain ⟨Dx, Ex, kx, gvx, jvx, qvx, bvx, slx, hWx⟩ := HT3.out.seat
        have c0 := hWx.c.1
        have HSX : Hid (SM Ex s1 x'.p gvx jvx qvx y3) := hWx.sm
        have hq24 := HSTEP.out.wi.st.ok.ql
        clear hWx
        go_wp2_with fail
        refine (syQueue HSX.out hq24).mono ?_
        rintro e y4 ⟨qw, rfl, hq, hY4⟩
        obtain ⟨qa, qc, hqf⟩ := row_formL hq
        obtain ⟨n, hn⟩ : ∃ n, n = x'.p.qs.length := ⟨_, rfl⟩
        rw [← hn] at hqf hq hq24
        clear hn
        subst hqf
        have HQ : Hid (0 < n → ∃ g cur, qa = some ⟨g, 0, none⟩ ∧ y3.heap.size ≤ g ∧ n ≤ qc ∧ y4.heap[g]? = some (.cells cur 3 (0, 0)) ∧ n ≤ cur.size) := by
          intro hpos
          rcases hq.2 with ⟨hv, hn0⟩ | ⟨g, cap, cur, hv, q1, q2, q3, q4, q5, q6⟩
          · omega
          · injection hv with e1 e2 e3
            exact ⟨g, cur, e1, q1, by omega, q2, by omega⟩
        have HY4 : Hid (Below y3.heap.size y3 y4) := hY4
        clear hq hY4 c0
        go_wp2_with fail
        go_loopg [16] (n + 1) (fun r s wr => ∃ (j : Nat), j ≤ n ∧ r = n - j + 1 ∧ s = .int .i64 (j : Int) ∧ Hid (0 < n → ∃ g cur, qa = some ⟨g, 0, none⟩ ∧ y3.heap.size ≤ g ∧ n ≤ qc ∧ wr.heap[g]? = some (.cells cur 3 (0, 0)) ∧ n ≤ cur.size) ∧ Hid (Below y3.heap.size y3 wr))
        case atStart => exact ⟨0, Nat.zero_le _, rfl, rfl, HQ, HY4⟩
        case round =>
          obtain ⟨j, hj, rfl, rfl, HQ5, HY5⟩ := hrel
          by_cases hjn : j < n
          · have hjn' : (j : Int) < (n : Int) := by omega
            obtain ⟨g, cur, rfl, hg, hnc, hblk, hcs⟩ := HQ5.out (by omega)
            have z := whole_frozen hblk j
            have hc := whole_cell hblk j
            rw [Array.getElem?_eq_getElem (show j < cur.size by omega)] at hc
            obtain ⟨u, hu⟩ : ∃ u, u = cur[j]'(show j < cur.size by omega) := ⟨_, rfl⟩
            rw [← hu] at hc
            have HB6 : Hid (Below y3.heap.size y3 (wr.setCell ⟨g, j, none⟩ (.int .i64 (-5)))) := HY5.out.setCell (p := ⟨g, j, none⟩) hg _
            have HQ6 : Hid (0 < n → ∃ g' cur, (some ⟨g, 0, none⟩ : Option Addr) = some ⟨g', 0, none⟩ ∧ y3.heap.size ≤ g' ∧ n ≤ qc ∧ (wr.setCell ⟨g, j, none⟩ (.int .i64 (-5))).heap[g']? = some (.cells cur 3 (0, 0)) ∧ n ≤ cur.size) := by
              intro _
              exact ⟨g, _, rfl, hg, hnc, whole_set hblk j _, by simpa using hcs⟩
            clear hu hblk
            go_wp2_with fail
            go_roundg (n - (j + 1) + 1)
            case measure => omega
            case rel => exact ⟨j + 1, by omega, rfl, by go_num, HQ6, HB6⟩
          · have hjn' : ¬ (j : Int) < (n : Int) := by omega
            have HT5 : Hid (Tri w.heap.size b1 s1 b2 s2 b3 s3 x' x' z' wr) := HT3.out.below HY5.out
            have HB5 : Hid (Below w.heap.size w wr) := HB3.out.trans (HY5.out.mono HB3.out.size)
            obtain ⟨D1, E1, k1, gv1, jv1, qv1, bv1, sl1, hWx1⟩ := HT5.out.seat
            obtain ⟨D2, E2, k2, gv2, jv2, qv2, bv2, sl2, hWx2⟩ := HT5.out.rot.seat
            have HA1 : Hid (WM D1 E1 b1 s1 k1 x' gv1 jv1 qv1 bv1 sl1 wr) := hWx1
            have HA2 : Hid (WM D2 E2 b2 s2 k2 x' gv2 jv2 qv2 bv2 sl2 wr) := hWx2
            clear hWx1 hWx2
            go_wp2_with fail
            refine (kAlike HA1.out HA2.out HSTEP.out (code_ne HSTEP.out HDS.out)).mono ?_
            rintro e y6 ⟨rfl, hY6⟩
            have HT6 : Hid (Tri w.heap.size b1 s1 b2 s2 b3 s3 x' x' z' y6) := HT5.out.below hY6
            have HB6 : Hid (Below w.heap.size w y6) := HB5.out.trans (hY6.mono HB5.out.size)
            clear hY6 HA1 HA2
            go_wp2_with fail
            go_roundg (l1 - (k + 1) + 1)
            case measure => omega
            case rel => exact ⟨k + 1, _, _, by omega, rfl, by go_num, HSTEP, HZ', HDS, HT6, HB6⟩
    · have hlt' : ¬ (k : Int) < (l1 : Int) := by omega
      go_wp2_with fail
      go_ret
      exact ⟨rfl, HB.out⟩
end Go.Proofs.YtanknpmojblmcabGreatDoor

/-
  Firm: what is refused has its error, and changes nothing.
-/
set_option linter.unusedSimpArgs false
set_option linter.unusedVariables false
namespace Go.Proofs.YtanknpmojblmcabGreatDoor
open Go.RowKit

variable {D E : Nat → Prop} {bw sy kb : Nat} {x : WS} {gv jv qv bv : Value} {sl : Nat → Sl} {w0 w w' : World}

theorem GsOK.ofW (h : WOK x) : GsOK x.p := h.wi.gok

set_option maxRecDepth 100000 in
set_option maxHeartbeats 8000000 in
theorem wFirm (h : WM D E bw sy kb x gv jv qv bv sl w) (hw : WOK x) (hD : DecJ x.p.js) (hn : NmW x.ms) (lv : Value) (hS : Sts lv x.p.js w) (hL : ∀ g, lv.ownBlock = some g → ¬ D g) :
    Calls Tryz.prog 23 #[.pointer (some ⟨bw, 0, none⟩), lv] w fun e w' => e = .returned (.bool true) ∧ WMe D bw sy x w' ∧ Keep D w w' := by
  have HW : Hid (WM D E bw sy kb x gv jv qv bv sl w) := h
  have HK : Hid (WOK x) := hw
  have HC : Hid (∀ k, k < x.p.js.length → (x.p.js.getD k pj0).code ≠ []) := code_ne hw hD
  have HR : Hid (RfOK x.p) := rf_ok hw hn
  have HG : Hid (GsOK x.p) := GsOK.ofW hw
  have HP : Hid (POK x.p) := hw.wi.st.ok
  have HT : Hid (x.p.now ≤ 3000) := hw.hi
  have hl24 := hw.wi.st.ok.n.ln
  have hn8 := hw.n8
  have HLV : Hid (Sts lv x.p.js w ∧ ∀ g, lv.ownBlock = some g → ¬ D g) := ⟨hS, hL⟩
  have HHN : Hid (∀ id : Int, id < 0 ∨ (x.p.js.length : Int) ≤ id → hasP x.p id = false) := by
    intro id hid
    unfold hasP
    rcases hid with q | q
    · rw [show decide (0 ≤ id) = false from by simpa using q]; rfl
    · rw [show decide (id < (x.p.js.length : Int)) = false from by simpa using q]; simp
  clear h hw hD hn hL
  obtain ⟨la, lc, hlf⟩ := hS.form
  clear hS
  obtain ⟨n, hnn⟩ : ∃ n, n = x.p.js.length := ⟨_, rfl⟩
  rw [← hnn] at hlf hl24 HHN
  have HNN : Hid (n = x.p.js.length) := hnn
  clear hnn
  subst hlf
  go_enter Tryz.func23, Tryz.ntmps23
  go_wp2_with fail
  refine (wSeen HW.out HK.out HC.out).mono ?_
  rintro e y1 ⟨l1, q1, c1, rfl, hs1, hY1⟩
  have HS1 : Hid (SeenR w.heap.size x.p l1 q1 c1 y1) := hs1
  have HSF : Hid (∃ a1 b1 a3 b3 a5 b5, l1 = .slice a1 n b1 ∧ q1 = .slice a3 x.p.qs.length b3 ∧ c1 = .slice a5 n b5) := by
    obtain ⟨a1, b1, e1⟩ := row_formL hs1.l
    obtain ⟨a3, b3, e3⟩ := row_formL hs1.q
    obtain ⟨a5, b5, e5⟩ := row_formL hs1.c
    rw [← HNN.out] at e1 e5
    exact ⟨a1, b1, a3, b3, a5, b5, e1, e3, e5⟩
  have HY1 : Hid (Below w.heap.size w y1) := hY1
  clear hs1 hY1
  obtain ⟨a1, b1, a3, b3, a5, b5, e1, e3, e5⟩ := HSF.out
  obtain ⟨m0, hm0⟩ : ∃ m0, m0 = x.p.qs.length := ⟨_, rfl⟩
  rw [← hm0] at e3
  clear hm0 HSF
  subst e1 e3 e5
  unfold snA
  obtain ⟨t0, ht0⟩ : ∃ t0, t0 = x.p.now := ⟨_, rfl⟩
  obtain ⟨f0, hf0⟩ : ∃ f0, f0 = freeF x.p.nodes x.p.js := ⟨_, rfl⟩
  rw [← HNN.out, ← ht0, ← hf0]
  have HLT : Hid (t0 = x.p.now ∧ f0 = freeF x.p.nodes x.p.js) := ⟨ht0, hf0⟩
  clear ht0 hf0
  go_upto_region 2 with fail
  have Y1 := whole_new y1 (.cells #[.slice a1 n b1, .slice a3 m0 b3, .int .i64 t0, .int .i64 f0, .int .i64 (n : Int), .slice a5 n b5] 78 (0, 0))
  have HBA : Below y1.heap.size y1 (y1.alloc (.cells #[.slice a1 n b1, .slice a3 m0 b3, .int .i64 t0, .int .i64 f0, .int .i64 (n : Int), .slice a5 n b5] 78)) := (Below.refl _ y1).alloc (Nat.le_refl _) _
  have hz2 : (y1.alloc (.cells #[.slice a1 n b1, .slice a3 m0 b3, .int .i64 t0, .int .i64 f0, .int .i64 (n : Int), .slice a5 n b5] 78)).heap.size = y1.heap.size + 1 := by simp
  have hz2' : y1.heap.size < (y1.alloc (.cells #[.slice a1 n b1, .slice a3 m0 b3, .int .i64 t0, .int .i64 f0, .int .i64 (n : Int), .slice a5 n b5] 78)).heap.size := by omega
  clear hz2
  generalize y1.alloc (.cells #[.slice a1 n b1, .slice a3 m0 b3, .int .i64 t0, .int .i64 f0, .int .i64 (n : Int), .slice a5 n b5] 78) = y2 at *
  have HBW : Hid (Below w.heap.size w y2) := HY1.out.trans (HBA.mono HY1.out.size)
  have hzw := HY1.out.size
  have HBA2 : Hid (Below y1.heap.size y1 y2) := HBA
  obtain ⟨r1, hr1⟩ : ∃ r1, r1 = y1.heap.size := ⟨_, rfl⟩
  rw [← hr1] at Y1 hz2' hzw ⊢
  have HRR : Hid (r1 = y1.heap.size) := hr1
  have HYR : Hid (y2.heap[r1]? = some (.cells #[.slice a1 n b1, .slice a3 m0 b3, .int .i64 t0, .int .i64 f0, .int .i64 (n : Int), .slice a5 n b5] 78 (0, 0))) := Y1
  have HW2 : Hid (WM (fun j => (D j ∧ j < w.heap.size) ∨ y2.heap.size ≤ j) (fun j => (E j ∧ j < w.heap.size) ∨ y2.heap.size ≤ j) bw sy kb x gv jv qv bv sl y2) := HW.out.narrowD HBW.out
  clear hr1 HBA Y1
  go_wp2_with fail
  refine (wBatches HW2.out HR.out HG.out hn8).mono ?_
  rintro e y3 ⟨rfl, qy3⟩
  have H3 : Hid (WK (fun j => (D j ∧ j < w.heap.size) ∨ y2.heap.size ≤ j) (fun j => (E j ∧ j < w.heap.size) ∨ y2.heap.size ≤ j) bw sy kb x bv sl y2 y3) := qy3
  clear qy3
  go_wp2_with fail
  refine (wStrange H3.out HP.out (-1) (HHN.out _ (by omega))).mono ?_
  rintro e y4 ⟨rfl, qy4⟩
  have H4 : Hid (WK (fun j => (D j ∧ j < w.heap.size) ∨ y2.heap.size ≤ j) (fun j => (E j ∧ j < w.heap.size) ∨ y2.heap.size ≤ j) bw sy kb x bv sl y2 y4) := qy4
  clear qy4
  go_wp2_with fail
  refine (wStrange H4.out HP.out (n : Int) (HHN.out _ (by omega))).mono ?_
  rintro e y5 ⟨rfl, qy5⟩
  have H5 : Hid (WK (fun j => (D j ∧ j < w.heap.size) ∨ y2.heap.size ≤ j) (fun j => (E j ∧ j < w.heap.size) ∨ y2.heap.size ≤ j) bw sy kb x bv sl y2 y5) := qy5
  clear qy5
  go_wp2_with fail
  refine (wStrange H5.out HP.out 9223372036854775807 (HHN.out _ (by omega))).mono ?_
  rintro e y6 ⟨rfl, qy6⟩
  have H6 : Hid (WK (fun j => (D j ∧ j < w.heap.size) ∨ y2.heap.size ≤ j) (fun j => (E j ∧ j < w.heap.size) ∨ y2.heap.size ≤ j) bw sy kb x bv sl y2 y6) := qy6
  clear qy6
  go_wp2_with fail
  have HLE : Hid (∀ g, (Value.slice la n lc).ownBlock = some g → ¬ ((E g ∧ g < w.heap.size) ∨ y2.heap.size ≤ g)) := by
    intro g hg q
    rcases q with q | q
    · exact HLV.out.2 g hg (HW.out.ed g q.1)
    · have : g < w.heap.size := by
        rcases HLV.out.1 with ⟨he, _⟩ | ⟨g', cap, he, h2, h3, h4⟩
        · rw [he] at hg; simp [Value.ownBlock] at hg
        · rw [he] at hg; simp [Value.ownBlock] at hg; omega
      omega
  refine (wStubborn H6.out HP.out _ ((HLV.out.1.below HBW.out).keepD HLE.out H6.out.2) HLE.out).mono ?_
  rintro e y7 ⟨rfl, qy7⟩
  have H7 : Hid (WK (fun j => (D j ∧ j < w.heap.size) ∨ y2.heap.size ≤ j) (fun j => (E j ∧ j < w.heap.size) ∨ y2.heap.size ≤ j) bw sy kb x bv sl y2 y7) := qy7
  clear qy7
  go_wp2_with fail
  refine (wStill H7.out HP.out HT.out).mono ?_
  rintro e y8 ⟨rfl, qy8⟩
  have H8 : Hid (WK (fun j => (D j ∧ j < w.heap.size) ∨ y2.heap.size ≤ j) (fun j => (E j ∧ j < w.heap.size) ∨ y2.heap.size ≤ j) bw sy kb x bv sl y2 y8) := qy8
  clear qy8
  go_wp2_with fail
  obtain ⟨⟨gv8, jv8, qv8, hW8⟩, hK8⟩ := H8.out
  have HW8 : Hid (WM (fun j => (D j ∧ j < w.heap.size) ∨ y2.heap.size ≤ j) (fun j => (E j ∧ j < w.heap.size) ∨ y2.heap.size ≤ j) bw sy kb x gv8 jv8 qv8 bv sl y8) := hW8
  have HK8 : Hid (Keep (fun j => (E j ∧ j < w.heap.size) ∨ y2.heap.size ≤ j) y2 y8) := hK8
  clear hW8 hK8 H3 H4 H5 H6 H7
  refine (wSeen HW8.out HK.out HC.out).mono ?_
  rintro e y9 ⟨l2, q2, c2, rfl, hs2, hY9⟩
  have HS2 : Hid (SeenR y8.heap.size x.p l2 q2 c2 y9) := hs2
  have HSF : Hid (∃ a1 b1 a3 b3 a5 b5, l2 = .slice a1 n b1 ∧ q2 = .slice a3 x.p.qs.length b3 ∧ c2 = .slice a5 n b5) := by
    obtain ⟨a1, b1, e1⟩ := row_formL hs2.l
    obtain ⟨a3, b3, e3⟩ := row_formL hs2.q
    obtain ⟨a5, b5, e5⟩ := row_formL hs2.c
    rw [← HNN.out] at e1 e5
    exact ⟨a1, b1, a3, b3, a5, b5, e1, e3, e5⟩
  have HY9 : Hid (Below y8.heap.size y8 y9) := hY9
  clear hs2 hY9
  obtain ⟨a2, b2, a4, b4, a6, b6, e2, e4, e6⟩ := HSF.out
  obtain ⟨m1, hm1⟩ : ∃ m1, m1 = x.p.qs.length := ⟨_, rfl⟩
  rw [← hm1] at e4
  clear hm1 HSF
  subst e2 e4 e6
  unfold snA
  rw [← HNN.out, ← HLT.out.1, ← HLT.out.2]
  have hnotE : ∀ g, w.heap.size ≤ g → g < y2.heap.size → ¬ ((E g ∧ g < w.heap.size) ∨ y2.heap.size ≤ g) := by
    intro g h1 h2 q
    rcases q with q | q <;> omega
  have Y1 : y8.heap[r1]? = some (.cells #[.slice a1 n b1, .slice a3 m0 b3, .int .i64 t0, .int .i64 f0, .int .i64 (n : Int), .slice a5 n b5] 78 (0, 0)) := (HK8.out.block r1 (hnotE r1 (by omega) (by omega))).trans HYR.out
  replace Y1 : y9.heap[r1]? = some (.cells #[.slice a1 n b1, .slice a3 m0 b3, .int .i64 t0, .int .i64 f0, .int .i64 (n : Int), .slice a5 n b5] 78 (0, 0)) := (HY9.out.block r1 (whole_lt Y1)).trans Y1
  have hr19 := whole_lt Y1
  replace Y1 := whole_alloc Y1 (.cells #[.slice a2 n b2, .slice a4 m1 b4, .int .i64 t0, .int .i64 f0, .int .i64 (n : Int), .slice a6 n b6] 78)
  have Y2 := whole_new y9 (.cells #[.slice a2 n b2, .slice a4 m1 b4, .int .i64 t0, .int .i64 f0, .int .i64 (n : Int), .slice a6 n b6] 78 (0, 0))
  have HBA : Below y9.heap.size y9 (y9.alloc (.cells #[.slice a2 n b2, .slice a4 m1 b4, .int .i64 t0, .int .i64 f0, .int .i64 (n : Int), .slice a6 n b6] 78)) := (Below.refl _ y9).alloc (Nat.le_refl _) _
  have HRS : Hid (Sts (.slice a1 n b1) x.p.js y9 ∧ Ns (.slice a3 m0 b3) x.p.qs y9 ∧ Txs (.slice a5 n b5) (x.p.js.map (·.code)) y9) := by
    have s1 := HS1.out
    have z1 := HRR.out
    have hb : ∀ (v : Value) (base : Nat) (e : TypeId) (sz k : Nat) (xs : List Value), y1.ownsRow w.heap.size e sz v k xs → ∀ g, v.ownBlock = some g → ¬ ((E g ∧ g < w.heap.size) ∨ y2.heap.size ≤ g) := by
      intro v base e sz k xs hr g hg
      have := hr.lt g hg
      exact hnotE g this.1 (by omega)
    have c5 : Txs (.slice a5 n b5) (x.p.js.map (·.code)) y1 := by
      refine Txs.of (base := w.heap.size) ?_
      have := s1.c
      rw [List.length_map, List.map_map]
      exact this
    exact ⟨(((Sts.of s1.l).below HBA2.out).keepD (hb _ 0 _ _ _ _ s1.l) HK8.out).below HY9.out, (((Ns.of s1.q).below HBA2.out).keepD (hb _ 0 _ _ _ _ s1.q) HK8.out).below HY9.out, ((c5.below HBA2.out).keepD (hb _ 0 _ _ _ _ s1.c) HK8.out).below HY9.out⟩
  have HRS2 : Hid (Sts (.slice a2 n b2) x.p.js y9 ∧ Ns (.slice a4 m1 b4) x.p.qs y9 ∧ Txs (.slice a6 n b6) (x.p.js.map (·.code)) y9) := by
    have s1 := HS2.out
    have c5 : Txs (.slice a6 n b6) (x.p.js.map (·.code)) y9 := by
      refine Txs.of (base := y8.heap.size) ?_
      have := s1.c
      rw [List.length_map, List.map_map]
      exact this
    exact ⟨Sts.of s1.l, Ns.of s1.q, c5⟩
  have HFIN : Hid (WK D E bw sy kb x bv sl w (y9.alloc (.cells #[.slice a2 n b2, .slice a4 m1 b4, .int .i64 t0, .int .i64 f0, .int .i64 (n : Int), .slice a6 n b6] 78))) := (WK.outer HW.out HBW.out H8.out).below (HY9.out.trans (HBA.mono HY9.out.size))
  have HBAH : Hid (Below y9.heap.size y9 (y9.alloc (.cells #[.slice a2 n b2, .slice a4 m1 b4, .int .i64 t0, .int .i64 f0, .int .i64 (n : Int), .slice a6 n b6] 78))) := HBA
  clear hnotE HBA HS1 HS2 HK8 HYR HBA2
  go_upto_region 9 with fail
  obtain ⟨r2, hr2⟩ : ∃ r2, r2 = y9.heap.size := ⟨_, rfl⟩
  rw [← hr2] at Y2 ⊢
  clear hr2
  generalize y9.alloc (.cells #[.slice a2 n b2, .slice a4 m1 b4, .int .i64 t0, .int .i64 f0, .int .i64 (n : Int), .slice a6 n b6] 78) = y10 at *
  have k0 := whole_cell Y1 0; have k1 := whole_cell Y1 1; have k2 := whole_cell Y1 2; have k3 := whole_cell Y1 3; have k4 := whole_cell Y1 4; have k5 := whole_cell Y1 5
  have d0 := whole_cell Y2 0; have d1 := whole_cell Y2 1; have d2 := whole_cell Y2 2; have d3 := whole_cell Y2 3; have d4 := whole_cell Y2 4; have d5 := whole_cell Y2 5
  simp at k0 k1 k2 k3 k4 k5 d0 d1 d2 d3 d4 d5
  go_wp2_with fail
  have hq24 := HP.out.ql
  have HEQ : Hid ((Value.agg #[.slice a1 n b1, .slice a3 m0 b3, .int .i64 t0, .int .i64 f0, .int .i64 (n : Int), .slice a5 n b5] = .agg (snA x.p (.slice a1 n b1) (.slice a3 m0 b3) (.slice a5 n b5))) ∧ (Value.agg #[.slice a2 n b2, .slice a4 m1 b4, .int .i64 t0, .int .i64 f0, .int .i64 (n : Int), .slice a6 n b6] = .agg (snA x.p (.slice a2 n b2) (.slice a4 m1 b4) (.slice a6 n b6)))) := by
    constructor <;> (unfold snA; rw [← HNN.out, ← HLT.out.1, ← HLT.out.2])
  have call := kSameSeen x.p (.slice a1 n b1) (.slice a3 m0 b3) (.slice a5 n b5) (.slice a2 n b2) (.slice a4 m1 b4) (.slice a6 n b6) (x.p.js.map (·.code)) y10 (by rw [← HNN.out]; exact hl24) hq24 (by rw [List.length_map, ← HNN.out]; exact hl24)
    (HRS.out.1.below HBAH.out) (HRS2.out.1.below HBAH.out) (HRS.out.2.1.below HBAH.out) (HRS2.out.2.1.below HBAH.out) (HRS.out.2.2.below HBAH.out) (HRS2.out.2.2.below HBAH.out)
  rw [← HEQ.out.1, ← HEQ.out.2] at call
  refine call.mono ?_
  rintro e y11 ⟨rfl, hY11⟩
  have HFIN2 : Hid (WK D E bw sy kb x bv sl w y11) := HFIN.out.below hY11
  clear hY11 call k0 k1 k2 k3 k4 k5 d0 d1 d2 d3 d4 d5 Y1 Y2 HFIN
  go_wp2_with fail
  go_ret
  refine ⟨rfl, ?_, HFIN2.out.2.widen HW.out.ed⟩
  obtain ⟨⟨gv9, jv9, qv9, hW9⟩, _⟩ := HFIN2.out
  exact ⟨_, _, _, _, _, _, _, hW9⟩

set_option maxRecDepth 100000 in
set_option maxHeartbeats 8000000 in
theorem walk_firm (c : Int) (hc1 : -9223372036854775808 ≤ c) (hc2 : c ≤ 9223372036854775807) (a : Option Addr) (len cap : Nat) (w : World) (hM : IsMvs w a len cap) :
    Calls Tryz.prog 9 #[.int .i64 c, .slice a len cap, .int .i64 5] w fun e w' => e = .returned (.bool true) ∧ Below w.heap.size w w' := by
  have hcap := hM.cap_
  unfold maxLen at hcap
  have HM : Hid (IsMvs w a len cap) := hM
  clear hM
  go_enter Tryz.func9, Tryz.ntmps9
  go_wp2_with fail
  refine (wBegin c hc1 hc2 w).mono ?_
  rintro e x1 ⟨bw, sy, kb, rfl, hW, hB⟩
  have hN : pikD c % 8 < 8 := Nat.mod_lt _ (by omega)
  have HW0 : Hid (WMe (fun j => w.heap.size ≤ j) bw sy ⟨newP (1 + pikD c % 8), [], 0⟩ x1) := ⟨_, _, _, _, _, _, _, hW⟩
  have HK0 : Hid (WOK ⟨newP (1 + pikD c % 8), [], 0⟩) := new_wok _ (by omega) (by omega)
  have HD0 : Hid (DecJ (newP (1 + pikD c % 8)).js) := dec_nil
  have HN0 : Hid (NmW []) := by intro m hm; simp at hm
  have HB0 : Hid (Below w.heap.size w x1) := hB
  clear hW hB hN
  go_wp2_with fail
  go_loopg [11] (len + 1) (fun r z wr => ∃ (k : Nat) (x : WS) (D : Nat → Prop), k ≤ len ∧ r = len - k + 1 ∧ z = .int .i64 (k : Int) ∧ Hid (WOK x) ∧ Hid (DecJ x.p.js) ∧ Hid (NmW x.ms) ∧ Hid (∀ j, D j → w.heap.size ≤ j) ∧ Hid (WMe D bw sy x wr) ∧ Hid (Below w.heap.size w wr))
  case atStart => exact ⟨0, _, _, Nat.zero_le _, rfl, rfl, HK0, HD0, HN0, fun _ h => h, HW0, HB0⟩
  case round =>
    obtain ⟨k, x, D, hk, rfl, rfl, HK, HDJ, HNM, HD, HW, HB⟩ := hrel
    by_cases hlt : k < len
    · have hlt' : (k : Int) < (len : Int) := by omega
      obtain ⟨b, off, m, rfl, hl, hm, hbl, hmo, h1, h2, h3, h4⟩ := HM.out.at_ hlt
      replace h1 := (HB.out.cell (p := ⟨b, off + k * 4, none⟩) hbl).trans h1
      replace h2 := (HB.out.cell (p := ⟨b, off + k * 4 + 1, none⟩) hbl).trans h2
      replace h3 := (HB.out.cell (p := ⟨b, off + k * 4 + 2, none⟩) hbl).trans h3
      replace h4 := (HB.out.cell (p := ⟨b, off + k * 4 + 3, none⟩) hbl).trans h4
      have HMO : Hid (MvOK m) := hmo
      have HSTEP : Hid (WOK (stepW x m)) := (step_ok HK.out m).1
      have HDS : Hid (DecJ (stepW x m).p.js) := step_dec HK.out HDJ.out m
      have HNS : Hid (NmW (stepW x m).ms) := step_nm HK.out HNM.out m
      obtain ⟨E, kb1, gv, jv, qv, bv, sl, hWx⟩ := HW.out
      have c3 := hWx.c.2.2.2
      have k1 := hWx.bm.bk.c 1
      simp at k1
      clear hWx hmo
      go_wp2_with fail
      refine (wMove HW.out HK.out m HMO.out).mono ?_
      rintro e y1 ⟨rfl, hWM, hKp⟩
      have HB1 : Hid (Below w.heap.size w y1) := HB.out.trans (hKp.lowD HD.out)
      have HW1 : Hid (WMe D bw sy (stepW x m) y1) := hWM
      clear hWM hKp h1 h2 h3 h4 c3 k1 HW HB
      obtain ⟨E2, kb2, gv2, jv2, qv2, bv2, sl2, hW2⟩ := HW1.out
      have HW2 : Hid (WM D E2 bw sy kb2 (stepW x m) gv2 jv2 qv2 bv2 sl2 y1) := hW2
      clear hW2
      go_wp2_with fail
      refine (wAll HW2.out HSTEP.out).mono ?_
      rintro e y2 ⟨lv, rfl, hrow, hY2⟩
      have HST : Hid (Sts lv (stepW x m).p.js y2) := Sts.of hrow
      have HW3 : Hid (WM (fun j => (D j ∧ j < y1.heap.size) ∨ y2.heap.size ≤ j) (fun j => (E2 j ∧ j < y1.heap.size) ∨ y2.heap.size ≤ j) bw sy kb2 (stepW x m) gv2 jv2 qv2 bv2 sl2 y2) := HW2.out.narrowD hY2
      have HB2 : Hid (Below w.heap.size w y2) := HB1.out.trans (hY2.mono HB1.out.size)
      have hs1 := HB1.out.size
      have HD2 : Hid (∀ j, ((D j ∧ j < y1.heap.size) ∨ y2.heap.size ≤ j) → w.heap.size ≤ j) := by
        intro j hj
        have := HB2.out.size
        rcases hj with q | q
        · exact HD.out j q.1
        · omega
      have HLD2 : Hid (∀ g, lv.ownBlock = some g → ¬ ((D g ∧ g < y1.heap.size) ∨ y2.heap.size ≤ g)) := by
        intro g hg q
        have := hrow.lt g hg
        rcases q with q | q
        · have := q.2; omega
        · omega
      clear hrow hY2 hs1
      go_wp2_with fail
      refine (wFirm HW3.out HSTEP.out HDS.out HNS.out lv HST.out HLD2.out).mono ?_
      rintro e y3 ⟨rfl, hW4, hK4⟩
      have HW4 : Hid (WMe (fun j => (D j ∧ j < y1.heap.size) ∨ y2.heap.size ≤ j) bw sy (stepW x m) y3) := hW4
      have HB3 : Hid (Below w.heap.size w y3) := HB2.out.trans (hK4.lowD HD2.out)
      clear hW4 hK4
      go_wp2_with fail
      go_roundg (len - (k + 1) + 1)
      case measure => omega
      case rel => exact ⟨k + 1, stepW x m, _, by omega, rfl, by go_num, HSTEP, HDS, HNS, HD2, HW4, HB3⟩
    · have hlt' : ¬ (k : Int) < (len : Int) := by omega
      go_wp2_with fail
      go_ret
      exact ⟨rfl, HB.out⟩

set_option maxRecDepth 100000 in
set_option maxHeartbeats 2000000 in
theorem Firm_walk (c : Int) (hc1 : -9223372036854775808 ≤ c) (hc2 : c ≤ 9223372036854775807) (a : Option Addr) (len cap : Nat) (w : World) (hM : IsMvs w a len cap) :
    Calls Tryz.prog 6 #[.int .i64 c, .slice a len cap] w fun e w' => e = .returned (.bool true) ∧ Below w.heap.size w w' := by
  go_enter Tryz.func6, Tryz.ntmps6
  go_wp2_with fail
  refine (walk_firm c hc1 hc2 a len cap w hM).mono ?_
  rintro e y ⟨rfl, hY⟩
  go_wp2_with fail
  go_ret
  exact ⟨rfl, hY⟩
end Go.Proofs.YtanknpmojblmcabGreatDoor
