/-
  Heads in a ring: who is stuck, which ring is told; and who comes free when one of them waits for nothing.
-/
import Derived.Test.YtanknpmojblmcabLkN
set_option linter.unusedSimpArgs false
set_option linter.unusedVariables false
namespace Go.Proofs.Ytanknpmojblmcab

/-- Nothing but 1 divides both. -/
def cop (s n : Nat) : Bool := (List.range (n + 1)).all fun d => decide (d < 2) || (decide (s % d ≠ 0) || decide (n % d ≠ 0))
def copT : Bool := (List.range 13).all fun n => (List.range 13).all fun s => !(decide (s ≤ n) && (decide (1 ≤ s) && (cop s n || decide (s = 1)))) || (List.range n).all fun c => (decide (c = 0) || decide ((c * s) % n ≠ 0)) && ((List.range n).any fun j => decide ((j * s) % n = c))
set_option maxRecDepth 100000 in
set_option maxHeartbeats 4000000 in
theorem copT_ok : copT = true := by decide
theorem cop_dec (n : Nat) (hn : n < 13) (s : Nat) (hs : s < 13) (h : s ≤ n ∧ 1 ≤ s ∧ (cop s n = true ∨ s = 1)) (c : Nat) (hc : c < n) : (0 < c → (c * s) % n ≠ 0) ∧ ((List.range n).any fun j => decide ((j * s) % n = c)) = true := by
  have q := copT_ok
  unfold copT at q
  rw [List.all_eq_true] at q
  have q1 := q n (List.mem_range.mpr hn)
  rw [List.all_eq_true] at q1
  have q2 := q1 s (List.mem_range.mpr hs)
  have hcond : (decide (s ≤ n) && (decide (1 ≤ s) && (cop s n || decide (s = 1)))) = true := by
    simp only [Bool.and_eq_true, decide_eq_true_eq, Bool.or_eq_true]
    exact h
  rw [hcond, Bool.not_true, Bool.false_or, List.all_eq_true] at q2
  have q3 := q2 c (List.mem_range.mpr hc)
  rw [Bool.and_eq_true] at q3
  refine ⟨fun h0 => ?_, q3.2⟩
  have q4 := q3.1
  simp only [Bool.or_eq_true, decide_eq_true_eq] at q4
  rcases q4 with q4 | q4
  · omega
  · exact q4
theorem cop_go (n : Nat) (hn : n ≤ 12) (s : Nat) (hs : s ≤ n) (h1 : 1 ≤ s) (hc : cop s n = true ∨ s = 1) (a : Nat) (ha : a < n) (j : Nat) (hj : j < n) (h0 : 0 < j) : (a + j * s) % n ≠ a := by
  have q := (cop_dec n (by omega) s (by omega) ⟨hs, h1, hc⟩ j hj).1 h0
  have hr : (j * s) % n < n := Nat.mod_lt _ (by omega)
  rw [← Nat.add_mod_mod]
  generalize (j * s) % n = r at *
  by_cases h : a + r < n
  · rw [Nat.mod_eq_of_lt h]; omega
  · rw [Nat.mod_eq_sub_mod (by omega), Nat.mod_eq_of_lt (by omega)]; omega
theorem cop_all (n : Nat) (hn : n ≤ 12) (h0 : 1 ≤ n) (s : Nat) (hs : s ≤ n) (h1 : 1 ≤ s) (hc : cop s n = true ∨ s = 1) (a : Nat) (ha : a < n) (b : Nat) (hb : b < n) : ∃ j, j < n ∧ (a + j * s) % n = b := by
  have hlt : (b + n - a) % n < n := Nat.mod_lt _ (by omega)
  have q := (cop_dec n (by omega) s (by omega) ⟨hs, h1, hc⟩ _ hlt).2
  rw [List.any_eq_true] at q
  obtain ⟨j, hj, e⟩ := q
  simp only [List.mem_range] at hj
  simp only [decide_eq_true_eq] at e
  refine ⟨j, hj, ?_⟩
  rw [← Nat.add_mod_mod, e, Nat.add_mod_mod]
  rw [show a + (b + n - a) = b + n from by omega, Nat.add_mod_right, Nat.mod_eq_of_lt hb]

def circW (n s : Nat) (op : Option Nat) : List (List Nat) := (List.range n).map fun i => if some i = op then [] else [(i + s) % n]
theorem circW_len (n s : Nat) (op : Option Nat) : (circW n s op).length = n := by simp [circW]
theorem circW_get {n s i : Nat} {op : Option Nat} (h : i < n) : (circW n s op).getD i [] = if some i = op then [] else [(i + s) % n] := by
  simp [circW, h]
theorem circW_lt {n s : Nat} {op : Option Nat} (hn : 0 < n) : ∀ l ∈ circW n s op, ∀ j ∈ l, j < (circW n s op).length := by
  intro l hl j hj
  rw [circW_len]
  unfold circW at hl
  obtain ⟨i, _, rfl⟩ := List.mem_map.mp hl
  split at hj
  · simp at hj
  · simp at hj; subst hj; exact Nat.mod_lt _ hn

/-- In a closed ring none comes free. -/
theorem circ_stuck {n s : Nat} (hn : 0 < n) : ∀ i, i < n → (waysF (circW n s none)).getD i 0 = (((i + s) % n : Nat) : Int) := by
  have hlen := circW_len n s none
  have hz : ∀ (f : List Bool), (∀ k, f.getD k false = false) → ∀ i, i < n → notFr f ((circW n s none).getD i []) = (((i + s) % n : Nat) : Int) := by
    intro f hf i hi
    rw [circW_get hi, if_neg (by simp)]
    unfold notFr
    rw [hf, if_neg (by decide)]
  have hrow : ∀ (S : List Bool × List Int), S.1.length = n → (∀ k, S.1.getD k false = false) → ∀ m, m ≤ n → ∀ k, (wayRow (circW n s none) S m).1.getD k false = false := by
    intro S h1 h2 m
    induction m with
    | zero => intro _ k; exact h2 k
    | succ m ih =>
      intro hm k
      have hi := ih (by omega)
      rw [(row_step _ S m).1, getB_set _ _ _ _ (by rw [(wayRow_len _ S m).1]; omega)]
      split
      · rw [hz _ hi m (by omega)]
        exact decide_eq_false (by omega)
      · exact hi k
  have hN : ∀ r k, (wayN (circW n s none) r).1.getD k false = false := by
    intro r
    induction r with
    | zero =>
      intro k
      unfold wayN
      by_cases h : k < (circW n s none).length <;> simp [h]
    | succ r ih =>
      intro k
      show (wayRow (circW n s none) (wayN (circW n s none) r) (circW n s none).length).1.getD k false = false
      rw [hlen]
      exact hrow _ (by rw [(wayN_len _ r).1, hlen]) ih n (Nat.le_refl _) k
  intro i hi
  obtain ⟨m, hm⟩ : ∃ m, n = m + 1 := ⟨n - 1, by omega⟩
  have hv := row_vals (wayN_len (circW n s none) m).1 (wayN_len (circW n s none) m).2 (circW n s none).length (Nat.le_refl _) i (by omega)
  have e : waysF (circW n s none) = (wayRow (circW n s none) (wayN (circW n s none) m) (circW n s none).length).2 := by
    have e' : ∀ k, wayN (circW n s none) (k + 1) = wayRow (circW n s none) (wayN (circW n s none) k) (circW n s none).length := fun k => rfl
    have hl' : (circW n s none).length = m + 1 := by omega
    unfold waysF
    conv => lhs; rw [hl']
    exact congrArg Prod.snd (e' m)
  rw [e, hv.1]
  exact hz _ (hrow _ (by rw [(wayN_len _ m).1, hlen]) (hN m) i (by omega)) i hi

/-- Where one waits for nothing all come free. -/
theorem circ_free {n s z : Nat} (hn : n ≤ 12) (hz : z < n) (hs : s ≤ n) (hs1 : 1 ≤ s) (hc : cop s n = true ∨ s = 1) : ringF (circW n s (some z)) = [] := by
  have hlen := circW_len n s (some z)
  obtain ⟨h1, h2, h3⟩ := ways_spec (circW n s (some z))
  rw [hlen] at h1 h2 h3
  have hzf : (wayN (circW n s (some z)) n).1.getD z false = true := by
    rcases Int.lt_or_le ((waysF (circW n s (some z))).getD z 0) 0 with q | q
    · exact (h2 z hz).mp q
    · obtain ⟨k, k1, _⟩ := h3 z hz q
      rw [circW_get hz, if_pos rfl] at k1
      simp at k1
  have hst : ∀ i, i < n → 0 ≤ (waysF (circW n s (some z))).getD i 0 → ∀ j, 0 ≤ (waysF (circW n s (some z))).getD ((i + j * s) % n) 0 := by
    intro i hi h0 j
    induction j with
    | zero => simpa [Nat.mod_eq_of_lt hi] using h0
    | succ j ih =>
      have hlt : (i + j * s) % n < n := Nat.mod_lt _ (by omega)
      obtain ⟨k, k1, k2, k3⟩ := h3 _ hlt ih
      have hne : ¬ some ((i + j * s) % n) = some z := by
        intro e
        rw [circW_get hlt, if_pos e] at k1
        simp at k1
      rw [circW_get hlt, if_neg hne] at k1
      simp at k1
      have hk : (i + (j + 1) * s) % n = k := by
        rw [k1, Nat.add_mul, Nat.one_mul, Nat.add_assoc]
      rw [hk]
      have hkn : k < n := by rw [← hk]; exact Nat.mod_lt _ (by omega)
      rcases Int.lt_or_le ((waysF (circW n s (some z))).getD k 0) 0 with q | q
      · rw [(h2 k hkn).mp q] at k3; exact absurd k3 (by decide)
      · exact q
  unfold ringF
  rw [if_pos]
  rcases stuckF_spec (waysF (circW n s (some z))) 0 with q | ⟨k, k1, _, k3⟩
  · exact q
  · exfalso
    have hwl : (waysF (circW n s (some z))).length = n := by
      have := (wayN_len (circW n s (some z)) (circW n s (some z)).length).2
      rw [hlen] at this
      unfold waysF
      rw [hlen]; exact this
    obtain ⟨j, _, hj⟩ := cop_all n hn (by omega) s hs hs1 hc k (by omega) z hz
    have q := hst k (by omega) k3 j
    rw [hj] at q
    have q2 := (h2 z hz).mpr hzf
    omega

/-- The ring that is told. -/
theorem circ_ring {n s : Nat} (h0 : 0 < n) (hn : n ≤ 12) (hs : s ≤ n) (hs1 : 1 ≤ s) (hc : cop s n = true ∨ s = 1) : ∃ a, a < n ∧ ringF (circW n s none) = (List.range n).map fun j => (a + j * s) % n := by
  have hlen := circW_len n s none
  have hst := circ_stuck (s := s) h0
  have hwl : (waysF (circW n s none)).length = n := by
    have := (wayN_len (circW n s none) (circW n s none).length).2
    rw [hlen] at this
    unfold waysF
    rw [hlen]; exact this
  rcases stuckF_spec (waysF (circW n s none)) 0 with q | ⟨a0, k1, k2, k3⟩
  · exfalso
    have e0 := hst 0 h0
    cases hw : waysF (circW n s none) with
    | nil => rw [hw] at hwl; simp at hwl; omega
    | cons x r =>
      rw [hw] at q e0
      simp at e0
      unfold stuckF at q
      rw [if_pos (by rw [e0]; omega)] at q
      omega
  · have hgo : ∀ m, goN (waysF (circW n s none)) a0 m < n := by
      intro m
      induction m with
      | zero => rw [hwl] at k1; exact k1
      | succ m ih =>
        show ((waysF (circW n s none)).getD (goN (waysF (circW n s none)) a0 m) 0).toNat < n
        rw [hst _ ih]
        simp only [Int.toNat_natCast]
        exact Nat.mod_lt _ h0
    refine ⟨goN (waysF (circW n s none)) a0 n, hgo n, ?_⟩
    generalize hA : goN (waysF (circW n s none)) a0 n = A
    have hAn : A < n := by rw [← hA]; exact hgo n
    have hring : ∀ d, d ≤ n → ringL (waysF (circW n s none)) (d + 1) ((A + (n - d) * s) % n) ((List.range (n - d)).map fun j => (A + j * s) % n) = (List.range n).map fun j => (A + j * s) % n := by
      intro d
      induction d with
      | zero =>
        intro _
        unfold ringL
        rw [if_pos]
        · simp
        · simp only [Nat.sub_zero]
          rw [List.mem_map]
          refine ⟨0, by simp; omega, ?_⟩
          simp
      | succ d ih =>
        intro hd
        unfold ringL
        have hlt : (A + (n - (d + 1)) * s) % n < n := Nat.mod_lt _ h0
        rw [if_neg]
        · have e2 : ((waysF (circW n s none)).getD ((A + (n - (d + 1)) * s) % n) 0).toNat = (A + (n - d) * s) % n := by
            rw [hst _ hlt]
            simp only [Int.toNat_natCast]
            rw [Nat.mod_add_mod, show n - d = (n - (d + 1)) + 1 from by omega, Nat.add_mul, Nat.one_mul, Nat.add_assoc]
          rw [e2]
          have e3 : ((List.range (n - (d + 1))).map fun j => (A + j * s) % n) ++ [(A + (n - (d + 1)) * s) % n] = (List.range (n - d)).map fun j => (A + j * s) % n := by
            rw [show n - d = (n - (d + 1)) + 1 from by omega, List.range_succ, List.map_append]
            rfl
          rw [e3]
          exact ih (by omega)
        · intro hm
          obtain ⟨j, hj, e⟩ := List.mem_map.mp hm
          simp at hj
          have hjd : n - (d + 1) = j + (n - (d + 1) - j) := by omega
          have hq := cop_go n hn s hs hs1 hc ((A + j * s) % n) (Nat.mod_lt _ h0) (n - (d + 1) - j) (by omega) (by omega)
          apply hq
          rw [Nat.mod_add_mod]
          have : A + j * s + (n - (d + 1) - j) * s = A + (n - (d + 1)) * s := by
            conv => rhs; rw [hjd, Nat.add_mul]
            omega
          rw [this]
          exact e.symm
    have hr := hring n (Nat.le_refl _)
    unfold ringF
    rw [k2, if_neg (by omega), hlen]
    simp only [Nat.zero_add, Int.toNat_natCast, hA]
    simpa [Nat.mod_eq_of_lt hAn] using hr
end Go.Proofs.Ytanknpmojblmcab
