/-
  The document's answer: Place, past, behind, number.
-/
import Derived.Test.YtanknpmojblmcaaStatD
import Derived.Test.YtanknpmojblmcaaRSpec2
set_option linter.unusedSimpArgs false
set_option linter.unusedVariables false
namespace Go.Proofs.Ytanknpmojblmcaa
open Go.RowKit

theorem Aside.below_of' {b N : Nat} {w w' : World} (h : Aside b w w') (hb : N ≤ b) (hN : N ≤ w.heap.size) : Below N w w' :=
  ⟨h.os, h.tape, h.output, h.size, fun k hk => h.block k (by omega) (by omega)⟩
theorem place_step {s : ST} {L : List UInt8} {k : Nat} (hk : k < L.length) : placeO s (L.drop k) k = match stepO s (byt L k) with | none => some k | some s' => placeO s' (L.drop (k + 1)) (k + 1) := by
  rw [List.drop_eq_getElem_cons hk]
  have : byt L k = L[k].toNat := by simp [byt, List.getD_eq_getElem?_getD, List.getElem?_eq_getElem hk]
  rw [this]; rfl

set_option maxHeartbeats 1000000 in
theorem Place_any (T : ByteArray) (w : World) (hT : T.size ≤ 600) :
    Calls Try.prog 15 #[.string T] w fun e w' => e = .returned (.int .i64 (oi (placeO st0 T.data.toList 0))) ∧ Below w.heap.size w w' := by
  have hlen : T.data.toList.length = T.size := by simp
  go_enter Try.func15, Try.ntmps15
  go_wp2_with fail
  have h0 : St w.heap.size st0 (w.alloc (.cells #[.int .i64 0, .int .i64 0, .int .i64 0, .int .i64 0, .bool false, .int .i64 0] 71)) := whole_new w _
  have hB0 : Below w.heap.size w (w.alloc (.cells #[.int .i64 0, .int .i64 0, .int .i64 0, .int .i64 0, .bool false, .int .i64 0] 71)) := (Below.refl _ _).alloc (Nat.le_refl _) _
  generalize w.alloc (.cells #[.int .i64 0, .int .i64 0, .int .i64 0, .int .i64 0, .bool false, .int .i64 0] 71) = w0 at *
  go_loopg [4] T.size (fun g x wr => ∃ (k : Nat) (s : ST), g = T.size - k ∧ k ≤ T.size ∧ x = .int .i64 (k : Int) ∧ St w.heap.size s wr ∧ OKS s k ∧ Below w.heap.size w wr ∧ Hid (placeO st0 T.data.toList 0 = placeO s (T.data.toList.drop k) k))
  case atStart => exact ⟨0, st0, rfl, Nat.zero_le _, rfl, h0, ⟨Nat.zero_le _, Nat.zero_le _, Nat.zero_le _, Nat.zero_le _, Nat.zero_le _⟩, hB0, rfl⟩
  case round =>
    obtain ⟨k, s, rfl, hk, rfl, hs, ok, hB, HL⟩ := hrel
    by_cases hlt : k < T.size
    · have hlt' : (k : Int) < (T.size : Int) := by omega
      have HL2 := HL.out
      rw [place_step (by rw [hlen]; exact hlt)] at HL2
      have HL3 : Hid _ := HL2
      clear HL2 HL
      go_wp2_with fail
      refine (step_any w.heap.size T[k].toNat s k (by omega) _ hs ok (UInt8.toNat_lt _)).mono ?_
      rw [byt_arr T k hlt]
      rintro e w1 ⟨ha, (⟨s2, ho, rfl, h2⟩ | ⟨ho, rfl⟩)⟩
      · have HL4 : Hid (placeO st0 T.data.toList 0 = placeO s2 (T.data.toList.drop (k + 1)) (k + 1)) := by show _ = _; rw [HL3.out, ho]
        have ok2 := ok.step ho
        have hB2 := hB.trans (ha.below_of' (Nat.le_refl _) hB.size)
        clear HL3 ho
        go_wp2_with fail
        go_roundg (T.size - (k + 1))
        case measure => omega
        case rel => exact ⟨k + 1, s2, rfl, hlt, by go_num, h2, ok2, hB2, HL4⟩
      · have HL4 : Hid (placeO st0 T.data.toList 0 = some k) := by show _ = _; rw [HL3.out, ho]
        have hB2 := hB.trans (ha.below_of' (Nat.le_refl _) hB.size)
        clear HL3 ho
        go_wp2_with fail
        go_ret
        rw [HL4.out]
        exact ⟨rfl, hB2⟩
    · have hlt' : decide ((k : Int) < (T.size : Int)) = false := by simp; omega
      have hke : k = T.size := by omega
      have HL2 : Hid (placeO st0 T.data.toList 0 = if wholeB s then none else some T.size) := by
        show _ = _
        rw [HL.out, List.drop_eq_nil_of_le (by omega), hke]; rfl
      clear HL hke
      go_wp2_with fail
      refine (whole_any w.heap.size s k (by omega) _ hs ok).mono ?_
      rintro e w1 ⟨rfl, hw1⟩
      subst hw1
      cases hwb : wholeB s with
      | true =>
        have HL3 : Hid (placeO st0 T.data.toList 0 = none) := by show _ = _; rw [HL2.out, hwb]; rfl
        clear HL2 hwb
        go_wp2_with fail
        go_ret
        rw [HL3.out]
        exact ⟨rfl, hB⟩
      | false =>
        have HL3 : Hid (placeO st0 T.data.toList 0 = some T.size) := by show _ = _; rw [HL2.out, hwb]; rfl
        clear HL2 hwb
        go_wp2_with fail
        go_ret
        rw [HL3.out]
        exact ⟨rfl, hB⟩

set_option maxHeartbeats 1000000 in
theorem past_any (T : ByteArray) (a b : Nat) (w : World) (hT : T.size ≤ 600) (hb : b ≤ T.size) (ha : a ≤ 1000) :
    Calls Try.prog 45 #[.string T, .int .i64 (a : Int), .int .i64 (b : Int)] w fun e w' => e = .returned (.int .i64 ((pastI T.data.toList (b - a) a : Nat) : Int)) ∧ w' = w := by
  go_enter Try.func45, Try.ntmps45
  go_wp2_with fail
  go_loopg [7] (b - a) (fun g x wr => ∃ i : Nat, g = b - i ∧ i ≤ 1000 ∧ x = .int .i64 (i : Int) ∧ wr = w ∧ Hid (pastI T.data.toList (b - a) a = pastI T.data.toList (b - i) i))
  case atStart => exact ⟨a, rfl, ha, rfl, rfl, rfl⟩
  case round =>
    obtain ⟨i, rfl, hi, rfl, rfl, HL⟩ := hrel
    by_cases hlt : i < b
    · have hlt' : (i : Int) < (b : Int) := by omega
      have hin : i < T.size := by omega
      have hin' : (i : Int) < (T.size : Int) := by omega
      have e1 : b - i = (b - (i + 1)) + 1 := by omega
      cases hl : letB (byt T.data.toList i) with
      | true =>
        have HL2 : Hid (pastI T.data.toList (b - a) a = pastI T.data.toList (b - (i + 1)) (i + 1)) := by show _ = _; rw [HL.out, e1, pastI, if_pos hl]
        have hbb := byt_arr T i hin
        have h97 : (97 : Int) ≤ (T[i].toNat : Int) := by simp [letB] at hl; omega
        have h122 : (T[i].toNat : Int) ≤ 122 := by simp [letB] at hl; omega
        clear HL e1 hl hbb
        go_wp2_with fail
        go_roundg (b - (i + 1))
        case measure => omega
        case rel => exact ⟨i + 1, rfl, by omega, by go_num, rfl, HL2⟩
      | false =>
        have HL2 : Hid (pastI T.data.toList (b - a) a = i) := by show _ = _; rw [HL.out, e1, pastI, if_neg (by rw [hl]; decide)]
        have hbb := byt_arr T i hin
        by_cases h97 : 97 ≤ T[i].toNat
        · have h97' : (97 : Int) ≤ (T[i].toNat : Int) := by omega
          have h122 : decide ((T[i].toNat : Int) ≤ 122) = false := by simp [letB] at hl; simp; omega
          clear HL e1 hl hbb h97
          go_wp2_with fail
          go_ret
          rw [HL2.out]
          exact ⟨rfl, rfl⟩
        · have h97' : decide ((97 : Int) ≤ (T[i].toNat : Int)) = false := by simp; omega
          clear HL e1 hl hbb h97
          go_wp2_with fail
          go_ret
          rw [HL2.out]
          exact ⟨rfl, rfl⟩
    · have hlt' : decide ((i : Int) < (b : Int)) = false := by simp; omega
      have HL2 : Hid (pastI T.data.toList (b - a) a = i) := by show _ = _; rw [HL.out, show b - i = 0 from by omega]; rfl
      clear HL
      go_wp2_with fail
      go_ret
      rw [HL2.out]
      exact ⟨rfl, rfl⟩

end Go.Proofs.Ytanknpmojblmcaa
