/-
  The document's Exec: Of, And, Or, operations, sound.
-/
import Derived.Test.YtanknpmojblmcaaXRunB
set_option linter.unusedSimpArgs false
set_option linter.unusedVariables false
namespace Go.Proofs.Ytanknpmojblmcaa
open Go.RowKit

set_option maxHeartbeats 4000000 in
theorem Of_any (op : Nat) (s : Int) (h1 : 1 ≤ op) (h2 : op ≤ 4) (h3 : 0 ≤ s) (h4 : s ≤ 6) (w : World) :
    Calls Try.prog 31 #[.int .i64 (op : Int), .int .i64 s] w fun e w' => e = .returned (.int .i64 (vR op s : Int)) ∧ w' = w := by
  obtain ⟨n, rfl⟩ : ∃ n : Nat, s = n := ⟨s.toNat, by omega⟩
  have hn : n = 0 ∨ n = 1 ∨ n = 2 ∨ n = 3 ∨ n = 4 ∨ n = 5 ∨ n = 6 := by omega
  have ho : op = 1 ∨ op = 2 ∨ op = 3 ∨ op = 4 := by omega
  clear h1 h2 h3 h4
  rcases ho with rfl | rfl | rfl | rfl <;> rcases hn with rfl | rfl | rfl | rfl | rfl | rfl | rfl
  all_goals
    go_enter Try.func31, Try.ntmps31
    go_wp2_with fail
    go_ret
    exact ⟨rfl, rfl⟩

def toI (l : List Nat) : List Int := l.map fun (n : Nat) => (n : Int)
def andL : List Nat → Bool → Nat
  | [], f => if f then 1 else 0
  | v :: r, f => if v = 2 then 2 else andL r (f && v == 1)
def orL : List Nat → Bool → Nat
  | [], f => if f then 2 else 0
  | v :: r, f => if v = 1 then 1 else orL r (f && v == 2)
theorem andL_two (a b : Nat) : andL [a, b] true = vAnd a b := by
  simp only [andL, vAnd]
  by_cases h1 : a = 2
  · simp [h1]
  · by_cases h2 : b = 2
    · simp [h1, h2]
    · simp [h1, h2]
theorem orL_two (a b : Nat) : orL [a, b] true = vOr a b := by
  simp only [orL, vOr]
  by_cases h1 : a = 1
  · simp [h1]
  · by_cases h2 : b = 1
    · simp [h1, h2]
    · simp [h1, h2]

set_option maxHeartbeats 2000000 in
theorem refAnd_any (N : Nat) (u : Value) (l : List Nat) (w : World) (hu : IntsB N u (toI l) w) (hl : l.length ≤ 10000) :
    Calls Try.prog 32 #[u] w fun e w' => e = .returned (.int .i64 (andL l true : Int)) ∧ w' = w := by
  have hll : (toI l).length = l.length := by simp [toI]
  obtain ⟨ua, uc, rfl⟩ := hu.form
  rw [hll] at hu ⊢
  go_enter Try.func32, Try.ntmps32
  go_wp2_with fail
  go_loopg [3, 4] (l.length + 1) (fun r f x wr => ∃ (k : Nat) (fb : Bool), k ≤ l.length ∧ r = l.length - k + 1 ∧ x = .int .i64 (k : Int) ∧ f = .bool fb ∧ wr = w ∧ Hid (andL (l.drop k) fb = andL l true))
  case atStart => exact ⟨0, true, Nat.zero_le _, rfl, rfl, rfl, rfl, rfl⟩
  case round =>
    obtain ⟨k, fb, hk, rfl, rfl, rfl, rfl, HA⟩ := hrel
    by_cases hlt : k < l.length
    · have hlt' : (k : Int) < (l.length : Int) := by omega
      rcases hu with ⟨_, he⟩ | ⟨g, cap, hq, hc, hg, hcell⟩
      · rw [he] at hll; simp at hll; omega
      rw [hll] at hq
      cases hq
      have hle : l.length ≤ uc := by rw [← hll]; exact hc
      have ck := hcell k (by rw [hll]; exact hlt)
      have eg : (toI l)[k]'(by rw [hll]; exact hlt) = (l[k] : Int) := by simp [toI]
      rw [eg] at ck
      have HD : Hid (l.drop k = l[k] :: l.drop (k + 1)) := List.drop_eq_getElem_cons hlt
      clear eg hcell
      generalize l[k] = v at *
      by_cases h2 : v = 2
      · subst h2
        have HE : Hid (andL l true = 2) := by
          show _ = _
          rw [← HA.out, HD.out]; rfl
        go_wp2_with fail
        go_ret
        rw [HE.out]
        exact ⟨rfl, rfl⟩
      · have h2' : ((v : Int) == 2) = false := by rw [beq_eq_false_iff_ne]; omega
        have HE : Hid (andL (l.drop (k + 1)) (fb && v == 1) = andL l true) := by
          show _ = _
          rw [← HA.out, HD.out]
          simp [andL, h2]
        clear h2
        have ev : ((v : Int) == 1) = (v == 1) := by
          by_cases h : v = 1
          · subst h; rfl
          · rw [beqF (by omega)]; symm; rw [beq_eq_false_iff_ne]; exact h
        cases fb with
        | true =>
          go_wp2_with fail
          go_roundg (l.length - (k + 1) + 1)
          case measure => omega
          case rel => exact ⟨k + 1, _, by omega, rfl, by go_num, rfl, rfl, HE⟩
        | false =>
          go_wp2_with fail
          go_roundg (l.length - (k + 1) + 1)
          case measure => omega
          case rel => exact ⟨k + 1, _, by omega, rfl, by go_num, rfl, rfl, HE⟩
    · have hlt' : decide ((k : Int) < (l.length : Int)) = false := by simp; omega
      have HE : Hid (andL l true = if fb then 1 else 0) := by
        show _ = _
        rw [← HA.out, List.drop_eq_nil_of_le (by omega)]; rfl
      cases fb
      all_goals
        go_wp2_with fail
        go_ret
        rw [HE.out]
        exact ⟨rfl, rfl⟩

set_option maxHeartbeats 2000000 in
theorem refOr_any (N : Nat) (u : Value) (l : List Nat) (w : World) (hu : IntsB N u (toI l) w) (hl : l.length ≤ 10000) :
    Calls Try.prog 33 #[u] w fun e w' => e = .returned (.int .i64 (orL l true : Int)) ∧ w' = w := by
  have hll : (toI l).length = l.length := by simp [toI]
  obtain ⟨ua, uc, rfl⟩ := hu.form
  rw [hll] at hu ⊢
  go_enter Try.func33, Try.ntmps33
  go_wp2_with fail
  go_loopg [3, 4] (l.length + 1) (fun r f x wr => ∃ (k : Nat) (fb : Bool), k ≤ l.length ∧ r = l.length - k + 1 ∧ x = .int .i64 (k : Int) ∧ f = .bool fb ∧ wr = w ∧ Hid (orL (l.drop k) fb = orL l true))
  case atStart => exact ⟨0, true, Nat.zero_le _, rfl, rfl, rfl, rfl, rfl⟩
  case round =>
    obtain ⟨k, fb, hk, rfl, rfl, rfl, rfl, HA⟩ := hrel
    by_cases hlt : k < l.length
    · have hlt' : (k : Int) < (l.length : Int) := by omega
      rcases hu with ⟨_, he⟩ | ⟨g, cap, hq, hc, hg, hcell⟩
      · rw [he] at hll; simp at hll; omega
      rw [hll] at hq
      cases hq
      have hle : l.length ≤ uc := by rw [← hll]; exact hc
      have ck := hcell k (by rw [hll]; exact hlt)
      have eg : (toI l)[k]'(by rw [hll]; exact hlt) = (l[k] : Int) := by simp [toI]
      rw [eg] at ck
      have HD : Hid (l.drop k = l[k] :: l.drop (k + 1)) := List.drop_eq_getElem_cons hlt
      clear eg hcell
      generalize l[k] = v at *
      by_cases h2 : v = 1
      · subst h2
        have HE : Hid (orL l true = 1) := by
          show _ = _
          rw [← HA.out, HD.out]; rfl
        go_wp2_with fail
        go_ret
        rw [HE.out]
        exact ⟨rfl, rfl⟩
      · have h2' : ((v : Int) == 1) = false := by rw [beq_eq_false_iff_ne]; omega
        have HE : Hid (orL (l.drop (k + 1)) (fb && v == 2) = orL l true) := by
          show _ = _
          rw [← HA.out, HD.out]
          simp [orL, h2]
        clear h2
        have ev : ((v : Int) == 2) = (v == 2) := by
          by_cases h : v = 2
          · subst h; rfl
          · rw [beqF (by omega)]; symm; rw [beq_eq_false_iff_ne]; exact h
        cases fb with
        | true =>
          go_wp2_with fail
          go_roundg (l.length - (k + 1) + 1)
          case measure => omega
          case rel => exact ⟨k + 1, _, by omega, rfl, by go_num, rfl, rfl, HE⟩
        | false =>
          go_wp2_with fail
          go_roundg (l.length - (k + 1) + 1)
          case measure => omega
          case rel => exact ⟨k + 1, _, by omega, rfl, by go_num, rfl, rfl, HE⟩
    · have hlt' : decide ((k : Int) < (l.length : Int)) = false := by simp; omega
      have HE : Hid (orL l true = if fb then 2 else 0) := by
        show _ = _
        rw [← HA.out, List.drop_eq_nil_of_le (by omega)]; rfl
      cases fb
      all_goals
        go_wp2_with fail
        go_ret
        rw [HE.out]
        exact ⟨rfl, rfl⟩

end Go.Proofs.Ytanknpmojblmcaa
