/-
  The reader's number and ref, command and seesHead.
-/
import Derived.Test.YtanknpmojblmcaaGreatDoorName
set_option linter.unusedSimpArgs false
set_option linter.unusedVariables false
namespace Go.Proofs.YtanknpmojblmcaaGreatDoor
open Go.RowKit

theorem digB_iff {c : Nat} : digB c = true ↔ 48 ≤ c ∧ c ≤ 57 := by simp [digB]
theorem pk_lt (L : List UInt8) (s : Nat × Bool) : pk L s < 256 := by unfold pk; split; · decide
                                                                     · exact byt_lt _ _
theorem digB_pk {L : List UInt8} {i : Nat} {f : Bool} (h : digB (pk L (i, f)) = true) : f = false ∧ i < L.length := by
  cases f with
  | true => simp [pk, digB] at h
  | false => exact ⟨rfl, digB_in (by simpa [pk] using h)⟩

theorem num_none {L : List UInt8} {s : Nat × Bool} (h : digB (pk L s) = false) : numV L s = 0 ∧ numS L s = (s.1, true) := by
  simp [numV, numS, h]
theorem num_one {L : List UInt8} {s : Nat × Bool} (h : digB (pk L s) = true) (h2 : pk L s = 48 ∨ digB (pk L (s.1 + 1, s.2)) = false) : numV L s = pk L s - 48 ∧ numS L s = (s.1 + 1, s.2) := by
  unfold numV numS
  rw [if_pos h, if_pos h, if_pos (by rcases h2 with h2 | h2 <;> simp [h2]), if_pos (by rcases h2 with h2 | h2 <;> simp [h2])]
  exact ⟨rfl, rfl⟩
theorem num_two {L : List UInt8} {s : Nat × Bool} (h : digB (pk L s) = true) (h1 : pk L s ≠ 48) (h2 : digB (pk L (s.1 + 1, s.2)) = true) : numV L s = 10 * (pk L s - 48) + (pk L (s.1 + 1, s.2) - 48) ∧ numS L s = (s.1 + 2, s.2) := by
  unfold numV numS
  rw [if_pos h, if_pos h, if_neg (by simp [h1, h2]), if_neg (by simp [h1, h2])]
  exact ⟨rfl, rfl⟩

set_option maxHeartbeats 1000000 in
theorem rnumber_any {rv : Value} (b i : Nat) (f : Bool) (T : ByteArray) (w : World) (h : Rd b rv T i f w) (hT : T.size ≤ 600) :
    Calls Tryz.prog 113 #[.pointer (some ⟨b, 0, none⟩)] w fun e w' => e = .returned (.int .i64 ((numV T.data.toList (i, f) : Nat) : Int)) ∧ Rd b rv T (numS T.data.toList (i, f)).1 (numS T.data.toList (i, f)).2 w' ∧ Aside b w w' := by
  go_enter Tryz.func113, Tryz.ntmps113
  go_wp2_with fail
  refine (peek_any b i f T _ h).mono ?_
  rintro e w1 ⟨rfl, n1, hw1⟩
  subst hw1
  go_wp2_with fail
  refine (isDigit_any _ (pk_lt _ _) _).mono ?_
  rintro e w1 ⟨rfl, hw1⟩
  subst hw1
  have h1 := h.c1; have h2 := h.c2; have z1 := h.z 1; have z2 := h.z 2
  cases hd : digB (pk T.data.toList (i, f)) with
  | false =>
    have HV : Hid (numV T.data.toList (i, f) = 0 ∧ numS T.data.toList (i, f) = (i, true)) := num_none hd
    clear hd
    go_wp2_with fail
    go_ret
    rw [HV.out.1, HV.out.2]
    exact ⟨rfl, Rd.setFail (w := w.drewN n1) h, ((Aside.refl b w).drewN n1).setCell (Or.inl rfl) _⟩
  | true =>
    obtain ⟨hc1, hc2⟩ := digB_iff.1 hd
    obtain ⟨-, hin⟩ := digB_pk hd
    have hin' : i < T.size := by simpa using hin
    have hR : Rd b rv T (i + 1) f ((w.setCell ⟨b, 1, none⟩ (.int .i64 ((i : Int) + 1))).drewN n1) := (Rd.setAt h (i + 1) (by go_num)).drewN n1
    have hA : Aside b w ((w.setCell ⟨b, 1, none⟩ (.int .i64 ((i : Int) + 1))).drewN n1) := ((Aside.refl b w).setCell (Or.inl rfl) _).drewN n1
    generalize hc : pk T.data.toList (i, f) = c at *
    have HC : Hid (pk T.data.toList (i, f) = c) := hc
    have HD : Hid (digB c = true) := hd
    clear hc hin hd
    go_wp2_with fail
    refine (peek_any b (i + 1) f T _ hR).mono ?_
    rintro e w1 ⟨rfl, n2, hw1⟩
    subst hw1
    have hR2 := hR.drewN n2
    have hA2 := hA.drewN n2
    generalize ((w.setCell ⟨b, 1, none⟩ (.int .i64 ((i : Int) + 1))).drewN n1).drewN n2 = w2 at *
    clear hR hA h1 h2 z1 z2
    by_cases h0 : c = 48
    · have h0' : ((c : Int) == 48) = true := by rw [beq_iff_eq]; omega
      have HV : Hid (numV T.data.toList (i, f) = c - 48 ∧ numS T.data.toList (i, f) = (i + 1, f)) := by
        have := num_one (L := T.data.toList) (s := (i, f)) (by rw [HC.out]; exact HD.out) (Or.inl (by rw [HC.out]; exact h0))
        rw [HC.out] at this; exact this
      clear h0
      go_wp2_with fail
      go_ret
      rw [HV.out.1, HV.out.2]
      exact ⟨ret_int (by omega), hR2, hA2⟩
    · have h0' : ((c : Int) == 48) = false := by rw [beq_eq_false_iff_ne]; omega
      go_wp2_with fail
      refine (isDigit_any _ (pk_lt _ _) _).mono ?_
      rintro e w1 ⟨rfl, hw1⟩
      subst hw1
      have h1 := hR2.c1; have z1 := hR2.z 1
      cases hd : digB (pk T.data.toList (i + 1, f)) with
      | false =>
        have HV : Hid (numV T.data.toList (i, f) = c - 48 ∧ numS T.data.toList (i, f) = (i + 1, f)) := by
          have := num_one (L := T.data.toList) (s := (i, f)) (by rw [HC.out]; exact HD.out) (Or.inr hd)
          rw [HC.out] at this; exact this
        clear h0 hd
        go_wp2_with fail
        go_ret
        rw [HV.out.1, HV.out.2]
        exact ⟨ret_int (by omega), hR2, hA2⟩
      | true =>
        obtain ⟨hd1, hd2⟩ := digB_iff.1 hd
        obtain ⟨-, hin2⟩ := digB_pk hd
        have hin2' : i + 1 < T.size := by simpa using hin2
        have HV : Hid (numV T.data.toList (i, f) = 10 * (c - 48) + (pk T.data.toList (i + 1, f) - 48) ∧ numS T.data.toList (i, f) = (i + 2, f)) := by
          have := num_two (L := T.data.toList) (s := (i, f)) (by rw [HC.out]; exact HD.out) (by rw [HC.out]; exact h0) hd
          rw [HC.out] at this; exact this
        clear h0 hd hin2
        generalize pk T.data.toList (i + 1, f) = d at *
        go_wp2_with fail
        go_ret
        rw [HV.out.1, HV.out.2]
        exact ⟨ret_int (by omega), Rd.setAt hR2 (i + 2) (by go_num), hA2.setCell (Or.inl rfl) _⟩

end Go.Proofs.YtanknpmojblmcaaGreatDoor
