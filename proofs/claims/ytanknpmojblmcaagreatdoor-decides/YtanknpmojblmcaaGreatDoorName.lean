/-
  The reader's name, number and ref.
-/
import Derived.Test.YtanknpmojblmcaaGreatDoorWord
import Derived.Deep.LoopGhost
namespace Go.Proofs.YtanknpmojblmcaaGreatDoor
open Go.RowKit

theorem ret_str {a b : ByteArray} (h : a = b) : Ending.returned (.string a) = .returned (.string b) := by rw [h]
theorem ex_nil (T : ByteArray) (i : Nat) : ByteArray.empty = T.extract i (i + 0) := by
  apply ByteArray.ext; simp
theorem lets_step {L : List UInt8} {n i : Nat} (h : letB (byt L i) = true) : lets L (n + 1) i = lets L n (i + 1) + 1 := by simp [lets, h]
theorem lets_stop {L : List UInt8} {n i : Nat} (h : letB (byt L i) = false) : lets L n i = 0 := by cases n <;> simp [lets, h]
theorem letB_in {L : List UInt8} {i : Nat} (h : letB (byt L i) = true) : i < L.length := byt_in (by intro e; rw [e] at h; simp [letB] at h)
theorem digB_in {L : List UInt8} {i : Nat} (h : digB (byt L i) = true) : i < L.length := byt_in (by intro e; rw [e] at h; simp [digB] at h)
theorem lets_le (L : List UInt8) (n : Nat) : ∀ i, i ≤ L.length → lets L n i + i ≤ L.length ∧ lets L n i ≤ n := by
  induction n with
  | zero => intro i hi; simp [lets]; omega
  | succ n ih =>
    intro i hi
    cases h : letB (byt L i) with
    | false => rw [lets_stop h]; omega
    | true =>
      rw [lets_step h]
      have := ih (i + 1) (letB_in h)
      omega

set_option maxHeartbeats 400000 in
theorem name_good {rv : Value} (b i : Nat) (T : ByteArray) (w : World) (h : Rd b rv T i false w) (hT : T.size ≤ 600) (hi : i ≤ T.size) :
    Calls Tryz.prog 112 #[.pointer (some ⟨b, 0, none⟩)] w fun e w' => e = .returned (.string (T.extract i (i + lets T.data.toList 6 i))) ∧ Rd b rv T (i + lets T.data.toList 6 i) (lets T.data.toList 6 i == 0) w' ∧ Aside b w w' := by
  have h1 := h.c1
  go_enter Tryz.func112, Tryz.ntmps112
  go_wp2_with fail
  go_loopg [] 7 (fun g wr => ∃ k : Nat, g = 7 - k ∧ k ≤ 6 ∧ i + k ≤ T.size ∧ Rd b rv T (i + k) false wr ∧ Aside b w wr ∧ Hid (lets T.data.toList 6 i = lets T.data.toList (6 - k) (i + k) + k))
  case atStart => exact ⟨0, rfl, Nat.zero_le _, hi, h, Aside.refl b w, rfl⟩
  case round =>
    obtain ⟨k, rfl, hk, hik, hr, ha, hw⟩ := hrel
    have r1 := hr.c1
    by_cases hlt : k < 6
    · have hlt' : ((i + k : Nat) : Int) - (i : Int) < 6 := by omega
      go_wp2_with fail
      refine (peek_any b (i + k) false T _ hr).mono ?_
      rintro e w1 ⟨rfl, n1, hw1⟩
      subst hw1
      go_wp2_with fail
      refine (isLetter_any _ (by simp [pk]; exact byt_lt _ _) _).mono ?_
      rintro e w1 ⟨rfl, hw1⟩
      subst hw1
      have hpk : pk T.data.toList (i + k, false) = byt T.data.toList (i + k) := rfl
      rw [hpk]
      clear hpk
      cases hl : letB (byt T.data.toList (i + k)) with
      | true =>
        have hin := letB_in hl
        have hst : Hid (lets T.data.toList 6 i = lets T.data.toList (6 - (k + 1)) (i + (k + 1)) + (k + 1)) := by
          show _ = _
          rw [hw.out, show 6 - k = (6 - (k + 1)) + 1 from by omega, lets_step hl]
          simp only [Nat.add_assoc, Nat.add_comm 1 k]
        have hin' : i + k < T.size := by simpa using hin
        clear hl hin hw
        have z1 := hr.z 1
        go_wp2_with fail
        go_roundg (7 - (k + 1))
        case measure => omega
        case rel => exact ⟨k + 1, rfl, by omega, by omega, Rd.setAt (w := wr.drewN n1) hr (i + (k + 1)) (by go_num), (ha.drewN n1).setCell (Or.inl rfl) _, hst⟩
      | false =>
        have hst : Hid (lets T.data.toList 6 i = k) := by
          show _ = _
          rw [hw.out, lets_stop hl]; omega
        clear hl hw
        by_cases hz : k = 0
        · subst hz
          have r0 := hr.c0
          have r2 := hr.c2
          have z2 := hr.z 2
          simp only [Nat.add_zero] at r1
          have hi1 : (i : Int) ≤ (T.size : Int) := by omega
          go_wp2_with fail
          go_quiet (fail)
          go_wp2_with fail
          go_ret
          rw [hst.out]
          exact ⟨ret_str (ex_nil T i), (Rd.setFail (w := wr.drewN n1) hr).drewN nq, ((ha.drewN n1).setCell (Or.inl rfl) _).drewN nq⟩
        · have r0 := hr.c0
          have hne : ((i : Int) + (k : Int) == (i : Int)) = false := by rw [beq_eq_false_iff_ne]; omega
          have hi1 : (i : Int) + (k : Int) ≤ (T.size : Int) := by omega
          go_wp2_with fail
          go_quiet (fail)
          go_wp2_with fail
          go_ret
          rw [hst.out]
          exact ⟨rfl, hr.of rfl (by simp [hz]), (ha.drewN n1).drewN nq⟩
    · have hk6 : k = 6 := by omega
      subst hk6
      have hst : Hid (lets T.data.toList 6 i = 6) := by
        show _ = _
        rw [hw.out]; simp [lets]
      have r0 := hr.c0
      have hlt' : decide ((i : Int) + 6 - (i : Int) < 6) = false := by simp; omega
      have hne : ((i : Int) + 6 == (i : Int)) = false := by rw [beq_eq_false_iff_ne]; omega
      have hi1 : (i : Int) + 6 ≤ (T.size : Int) := by omega
      go_wp2_with fail
      go_quiet (fail)
      go_wp2_with fail
      go_ret
      rw [hst.out]
      exact ⟨rfl, hr.of rfl (by simp), ha.drewN nq⟩

set_option maxHeartbeats 400000 in
theorem name_failed {rv : Value} (b i : Nat) (T : ByteArray) (w : World) (h : Rd b rv T i true w) (_hT : T.size ≤ 600) (hi : i ≤ T.size) :
    Calls Tryz.prog 112 #[.pointer (some ⟨b, 0, none⟩)] w fun e w' => e = .returned (.string (T.extract i (i + 0))) ∧ Rd b rv T i true w' ∧ Aside b w w' := by
  have h0 := h.c0; have h1 := h.c1; have h2 := h.c2; have z2 := h.z 2
  have hi1 : (i : Int) ≤ (T.size : Int) := by omega
  go_enter Tryz.func112, Tryz.ntmps112
  go_wp2_with fail
  go_loopg [] 1 (fun g wr => g = 1 ∧ wr = w)
  case atStart => exact ⟨rfl, rfl⟩
  case round =>
    obtain ⟨rfl, rfl⟩ := hrel
    go_wp2_with fail
    refine (peek_any b i true T _ h).mono ?_
    rintro e w1 ⟨rfl, n1, hw1⟩
    subst hw1
    go_wp2_with fail
    refine (isLetter_any 0 (by decide) _).mono ?_
    rintro e w1 ⟨rfl, hw1⟩
    subst hw1
    have hl : letB 0 = false := rfl
    rw [hl]
    clear hl
    go_wp2_with fail
    go_quiet (fail)
    go_wp2_with fail
    go_ret
    exact ⟨ret_str (ex_nil T i), (Rd.setFail (w := wr.drewN n1) h).drewN nq, (((Aside.refl b wr).drewN n1).setCell (Or.inl rfl) _).drewN nq⟩

/-- name: the state behind it; of a reader that had not failed the letters that it passed. -/
theorem name_any {rv : Value} (b i : Nat) (f : Bool) (T : ByteArray) (w : World) (h : Rd b rv T i f w) (hT : T.size ≤ 600) (hi : i ≤ T.size) :
    Calls Tryz.prog 112 #[.pointer (some ⟨b, 0, none⟩)] w fun e w' => e = .returned (.string (T.extract i (nmS T.data.toList (i, f)).1)) ∧ Rd b rv T (nmS T.data.toList (i, f)).1 (nmS T.data.toList (i, f)).2 w' ∧ Aside b w w' := by
  cases f with
  | true => exact (name_failed b i T w h hT hi).mono fun e w' ⟨he, hr, ha⟩ => ⟨he, hr, ha⟩
  | false => exact (name_good b i T w h hT hi).mono fun e w' ⟨he, hr, ha⟩ => ⟨he, hr, ha⟩

end Go.Proofs.YtanknpmojblmcaaGreatDoor
