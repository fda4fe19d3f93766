/-
  The document's answer: behind, number, closing.
-/
import Derived.Test.YtanknpmojblmcaaRefA
set_option linter.unusedSimpArgs false
set_option linter.unusedVariables false
namespace Go.Proofs.Ytanknpmojblmcaa
open Go.RowKit

theorem toList_extract (T : ByteArray) (i k : Nat) : (T.extract i k).toList = cut T.data.toList i k := by rw [bs_extract, ByteArray.toList_eq, bs_list]

set_option maxHeartbeats 1000000 in
theorem behind_any (T K : ByteArray) (a b : Nat) (w : World) (hT : T.size ≤ 600) (hb : b ≤ T.size) (ha : a ≤ 1000) (hK : K.size ≤ 10) :
    Calls Try.prog 46 #[.string T, .int .i64 (a : Int), .int .i64 (b : Int), .string K] w fun e w' => e = .returned (.int .i64 (oi (behO T.data.toList a b K.data.toList))) ∧ w' = w := by
  have hkl : K.data.toList.length = K.size := by simp
  have HB : Hid (behO T.data.toList a b K.data.toList = behI T.data.toList K.data.toList (b + 1 - K.size - a) a) := by show _ = _; unfold behO; rw [hkl]
  have HKL : Hid (K.data.toList.length = K.size) := hkl
  clear hkl
  go_enter Try.func46, Try.ntmps46
  go_wp2_with fail
  go_loopg [9] (b + 1 - K.size - a) (fun g x wr => ∃ i : Nat, g = b + 1 - K.size - i ∧ i ≤ 1001 ∧ x = .int .i64 (i : Int) ∧ wr = w ∧ Hid (behI T.data.toList K.data.toList (b + 1 - K.size - a) a = behI T.data.toList K.data.toList (b + 1 - K.size - i) i))
  case atStart => exact ⟨a, rfl, by omega, rfl, rfl, rfl⟩
  case round =>
    obtain ⟨i, rfl, hi, rfl, rfl, HL⟩ := hrel
    by_cases hlt : i + K.size ≤ b
    · have hlt' : (i : Int) + (K.size : Int) ≤ (b : Int) := by omega
      have e1 : b + 1 - K.size - i = (b + 1 - K.size - (i + 1)) + 1 := by omega
      have hs1 : (i : Int) + (K.size : Int) ≤ (T.size : Int) := by omega
      have hq : ((T.extract i (i + K.size)).toList == K.toList) = (cut T.data.toList i (i + K.size) == K.data.toList) := by rw [toList_extract, ByteArray.toList_eq]
      cases hc : (cut T.data.toList i (i + K.size) == K.data.toList) with
      | true =>
        have HL2 : Hid (behO T.data.toList a b K.data.toList = some (i + K.size)) := by show _ = _; rw [HB.out, HL.out, e1, behI, HKL.out, if_pos hc]
        rw [hc] at hq
        clear HL e1 hc HB
        go_wp2_with fail
        go_ret
        rw [HL2.out]
        exact ⟨rfl, rfl⟩
      | false =>
        have HL2 : Hid (behI T.data.toList K.data.toList (b + 1 - K.size - a) a = behI T.data.toList K.data.toList (b + 1 - K.size - (i + 1)) (i + 1)) := by show _ = _; rw [HL.out, e1, behI, HKL.out, if_neg (by rw [hc]; decide)]
        rw [hc] at hq
        clear HL hc
        go_wp2_with fail
        go_roundg (b + 1 - K.size - (i + 1))
        case measure => omega
        case rel => exact ⟨i + 1, rfl, by omega, by go_num, rfl, HL2⟩
    · have hlt' : decide ((i : Int) + (K.size : Int) ≤ (b : Int)) = false := by simp; omega
      have HL2 : Hid (behO T.data.toList a b K.data.toList = none) := by show _ = _; rw [HB.out, HL.out, show b + 1 - K.size - i = 0 from by omega]; rfl
      clear HL HB
      go_wp2_with fail
      go_ret
      rw [HL2.out]
      exact ⟨rfl, rfl⟩

set_option maxHeartbeats 1000000 in
theorem number_none (T : ByteArray) (w : World) :
    Calls Try.prog 47 #[.string T, .int .i64 (-1)] w fun e w' => e = .returned (.int .i64 0) ∧ w' = w := by
  go_enter Try.func47, Try.ntmps47
  go_wp2_with fail
  go_loopg [5, 6] 1 (fun g n x wr => g = 1 ∧ n = .int .i64 0 ∧ x = .int .i64 (-1) ∧ wr = w)
  case atStart => exact ⟨rfl, rfl, rfl, rfl⟩
  case round =>
    obtain ⟨rfl, rfl, rfl, rfl⟩ := hrel
    go_wp2_with fail
    go_ret
    exact ⟨rfl, rfl⟩

set_option maxHeartbeats 1000000 in
theorem number_some (T : ByteArray) (p : Nat) (w : World) (hT : T.size ≤ 600) (hp : p ≤ 1000) :
    Calls Try.prog 47 #[.string T, .int .i64 (p : Int)] w fun e w' => e = .returned (.int .i64 (numI T.data.toList (some p))) ∧ w' = w := by
  have hlen : T.data.toList.length = T.size := by simp
  have HN : Hid (numI T.data.toList (some p) = numR T.data.toList (T.size - p) p 0) := by show _ = _; unfold numI; rw [hlen]
  clear hlen
  go_enter Try.func47, Try.ntmps47
  go_wp2_with fail
  go_loopg [5, 6] (T.size - p) (fun g u x wr => ∃ (i : Nat) (n : Int), g = T.size - i ∧ i ≤ 1000 ∧ x = .int .i64 (i : Int) ∧ u = .int .i64 n ∧ wr = w ∧ Hid (numR T.data.toList (T.size - p) p 0 = numR T.data.toList (T.size - i) i n))
  case atStart => exact ⟨p, 0, rfl, hp, rfl, rfl, rfl, rfl⟩
  case round =>
    obtain ⟨i, n, rfl, hi, rfl, rfl, rfl, HL⟩ := hrel
    have h0 : (0 : Int) ≤ (i : Int) := by omega
    by_cases hlt : i < T.size
    · have hlt' : (i : Int) < (T.size : Int) := by omega
      have e1 : T.size - i = (T.size - (i + 1)) + 1 := by omega
      have hbb := byt_arr T i hlt
      cases hd : digB (byt T.data.toList i) with
      | true =>
        have HL2 : Hid (numR T.data.toList (T.size - p) p 0 = numR T.data.toList (T.size - (i + 1)) (i + 1) (wrap64 (wrap64 (10 * n) + ((T[i].toNat : Int) - 48)))) := by show _ = _; rw [HL.out, e1, numR, if_pos hd, hbb]
        have h48 : (48 : Int) ≤ (T[i].toNat : Int) := by simp [digB] at hd; omega
        have h57 : (T[i].toNat : Int) ≤ 57 := by simp [digB] at hd; omega
        clear HL e1 hd hbb HN
        go_wp2_with fail
        go_roundg (T.size - (i + 1))
        case measure => omega
        case rel => exact ⟨i + 1, _, rfl, by omega, by go_num, rfl, rfl, HL2⟩
      | false =>
        have HL2 : Hid (numI T.data.toList (some p) = n) := by show _ = _; rw [HN.out, HL.out, e1, numR, if_neg (by rw [hd]; decide)]
        by_cases h48 : 48 ≤ T[i].toNat
        · have h48' : (48 : Int) ≤ (T[i].toNat : Int) := by omega
          have h57 : decide ((T[i].toNat : Int) ≤ 57) = false := by simp [digB] at hd; simp; omega
          clear HL e1 hd hbb HN h48
          go_wp2_with fail
          go_ret
          rw [HL2.out]
          exact ⟨rfl, rfl⟩
        · have h48' : decide ((48 : Int) ≤ (T[i].toNat : Int)) = false := by simp; omega
          clear HL e1 hd hbb HN h48
          go_wp2_with fail
          go_ret
          rw [HL2.out]
          exact ⟨rfl, rfl⟩
    · have hlt' : decide ((i : Int) < (T.size : Int)) = false := by simp; omega
      have HL2 : Hid (numI T.data.toList (some p) = n) := by show _ = _; rw [HN.out, HL.out, show T.size - i = 0 from by omega]; rfl
      clear HL HN
      go_wp2_with fail
      go_ret
      rw [HL2.out]
      exact ⟨rfl, rfl⟩

theorem number_any (T : ByteArray) (o : Option Nat) (w : World) (hT : T.size ≤ 600) (hp : ∀ p, o = some p → p ≤ 1000) :
    Calls Try.prog 47 #[.string T, .int .i64 (oi o)] w fun e w' => e = .returned (.int .i64 (numI T.data.toList o)) ∧ w' = w := by
  cases o with
  | none => exact number_none T w
  | some p => exact number_some T p w hT (hp p rfl)

set_option maxHeartbeats 1000000 in
theorem closing_any (W : ByteArray) (i : Nat) (w : World) (hW : W.size ≤ 600) (hi : i < W.size) :
    Calls Try.prog 60 #[.string W, .int .i64 (i : Int)] w fun e w' => e = .returned (.int .i64 ((clo W.data.toList i : Nat) : Int)) ∧ w' = w := by
  have hlen : W.data.toList.length = W.size := by simp
  have HN : Hid (clo W.data.toList i = cloI W.data.toList (W.size - i) i 0) := by show _ = _; unfold clo; rw [hlen]
  have HLEN : Hid (W.data.toList.length = W.size) := hlen
  clear hlen
  go_enter Try.func60, Try.ntmps60
  go_wp2_with fail
  go_loopg [5, 6] (W.size - i) (fun g u x wr => ∃ (k : Nat) (n : Int), g = W.size - k ∧ k ≤ W.size ∧ -(k : Int) ≤ n ∧ n ≤ (k : Int) ∧ x = .int .i64 (k : Int) ∧ u = .int .i64 n ∧ wr = w ∧ Hid (cloI W.data.toList (W.size - i) i 0 = cloI W.data.toList (W.size - k) k n))
  case atStart => exact ⟨i, 0, rfl, by omega, by omega, by omega, rfl, rfl, rfl, rfl⟩
  case round =>
    obtain ⟨k, n, rfl, hk, hn1, hn2, rfl, rfl, rfl, HL⟩ := hrel
    by_cases hlt : k < W.size
    · have hlt' : (k : Int) < (W.size : Int) := by omega
      have e1 : W.size - k = (W.size - (k + 1)) + 1 := by omega
      have hbb := byt_arr W k hlt
      by_cases h40 : byt W.data.toList k = 40
      · have HL2 : Hid (cloI W.data.toList (W.size - i) i 0 = cloI W.data.toList (W.size - (k + 1)) (k + 1) (n + 1)) := by show _ = _; rw [HL.out, e1, cloI, if_pos h40]
        have f1 : ((W[k].toNat : Int) == 40) = true := by rw [beq_iff_eq]; omega
        have f2 : ((W[k].toNat : Int) == 41) = false := by rw [beq_eq_false_iff_ne]; omega
        clear HL e1 hbb h40 HN
        go_wp2_with fail
        go_roundg (W.size - (k + 1))
        case measure => omega
        case rel => exact ⟨k + 1, n + 1, rfl, by omega, by omega, by omega, by go_num, rfl, rfl, HL2⟩
      by_cases h41 : byt W.data.toList k = 41
      · have f1 : ((W[k].toNat : Int) == 40) = false := by rw [beq_eq_false_iff_ne]; omega
        have f2 : ((W[k].toNat : Int) == 41) = true := by rw [beq_iff_eq]; omega
        by_cases hz : n - 1 = 0
        · have HL2 : Hid (clo W.data.toList i = k) := by show _ = _; rw [HN.out, HL.out, e1, cloI, if_neg h40, if_pos h41, if_pos hz]
          have f3 : (n - 1 == 0) = true := by rw [beq_iff_eq]; omega
          clear HL e1 hbb h40 h41 HN hz
          go_wp2_with fail
          go_ret
          rw [HL2.out]
          exact ⟨rfl, rfl⟩
        · have HL2 : Hid (cloI W.data.toList (W.size - i) i 0 = cloI W.data.toList (W.size - (k + 1)) (k + 1) (n - 1)) := by show _ = _; rw [HL.out, e1, cloI, if_neg h40, if_pos h41, if_neg hz]
          have f3 : (n - 1 == 0) = false := by rw [beq_eq_false_iff_ne]; omega
          clear HL e1 hbb h40 h41 hz
          go_wp2_with fail
          go_roundg (W.size - (k + 1))
          case measure => omega
          case rel => exact ⟨k + 1, n - 1, rfl, by omega, by omega, by omega, by go_num, rfl, rfl, HL2⟩
      · have f1 : ((W[k].toNat : Int) == 40) = false := by rw [beq_eq_false_iff_ne]; omega
        have f2 : ((W[k].toNat : Int) == 41) = false := by rw [beq_eq_false_iff_ne]; omega
        have HL2 : Hid (cloI W.data.toList (W.size - i) i 0 = cloI W.data.toList (W.size - (k + 1)) (k + 1) n) := by show _ = _; rw [HL.out, e1, cloI, if_neg h40, if_neg h41]
        clear HL e1 hbb h40 h41
        go_wp2_with fail
        go_roundg (W.size - (k + 1))
        case measure => omega
        case rel => exact ⟨k + 1, n, rfl, by omega, by omega, by omega, by go_num, rfl, rfl, HL2⟩
    · have hlt' : decide ((k : Int) < (W.size : Int)) = false := by simp; omega
      have HL2 : Hid (clo W.data.toList i = W.size - 1) := by show _ = _; rw [HN.out, HL.out, show W.size - k = 0 from by omega, cloI, HLEN.out]
      clear HL HN
      go_wp2_with fail
      go_ret
      rw [HL2.out]
      exact ⟨ret_int (by omega), rfl⟩

end Go.Proofs.Ytanknpmojblmcaa
