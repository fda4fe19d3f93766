/-
  The reader's peek and skip.
-/
import Derived.Test.YtanknpmojblmcaaGreatDoorBase
namespace Go.Proofs.YtanknpmojblmcaaGreatDoor
open Go.RowKit

theorem ret_int {k : IntKind} {a b : Int} (h : a = b) : Ending.returned (.int k a) = .returned (.int k b) := by rw [h]

set_option maxHeartbeats 400000 in
theorem isLetter_any (c : Nat) (hc : c < 256) (w : World) :
    Calls Tryz.prog 128 #[.int .u8 (c : Int)] w fun e w' => e = .returned (.bool (letB c)) ∧ w' = w := by
  by_cases h1 : 97 ≤ c
  · have h1' : (97 : Int) ≤ (c : Int) := by omega
    go_enter Tryz.func128, Tryz.ntmps128
    go_wp2_with fail
    go_ret
    refine ⟨?_, rfl⟩
    by_cases h2 : c ≤ 122 <;> simp [letB, h1] <;> omega
  · have h1' : decide ((97 : Int) ≤ (c : Int)) = false := by simp; omega
    go_enter Tryz.func128, Tryz.ntmps128
    go_wp2_with fail
    go_ret
    exact ⟨by simp [letB, h1], rfl⟩

set_option maxHeartbeats 400000 in
theorem isDigit_any (c : Nat) (hc : c < 256) (w : World) :
    Calls Tryz.prog 130 #[.int .u8 (c : Int)] w fun e w' => e = .returned (.bool (digB c)) ∧ w' = w := by
  by_cases h1 : 48 ≤ c
  · have h1' : (48 : Int) ≤ (c : Int) := by omega
    go_enter Tryz.func130, Tryz.ntmps130
    go_wp2_with fail
    go_ret
    refine ⟨?_, rfl⟩
    by_cases h2 : c ≤ 57 <;> simp [digB, h1] <;> omega
  · have h1' : decide ((48 : Int) ≤ (c : Int)) = false := by simp; omega
    go_enter Tryz.func130, Tryz.ntmps130
    go_wp2_with fail
    go_ret
    exact ⟨by simp [digB, h1], rfl⟩

set_option maxHeartbeats 400000 in
theorem peek_in {rv : Value} (b i : Nat) (T : ByteArray) (w : World) (h : Rd b rv T i false w) (hi : i < T.size) :
    Calls Tryz.prog 129 #[.pointer (some ⟨b, 0, none⟩)] w fun e w' => e = .returned (.int .u8 (T[i].toNat : Int)) ∧ ∃ n, w' = w.drewN n := by
  have h0 := h.c0; have h1 := h.c1; have h2 := h.c2
  have hi' : (i : Int) < (T.size : Int) := by omega
  have hd : decide ((T.size : Int) ≤ (i : Int)) = false := by simp; omega
  go_enter Tryz.func129, Tryz.ntmps129
  go_wp2_with fail
  go_quiet (fail)
  go_wp2_with fail
  go_quiet (fail)
  go_wp2_with fail
  go_ret
  exact ⟨rfl, _, World.drewN_drewN _ _ _⟩

set_option maxHeartbeats 400000 in
theorem peek_end {rv : Value} (b i : Nat) (T : ByteArray) (w : World) (h : Rd b rv T i false w) (hi : T.size ≤ i) :
    Calls Tryz.prog 129 #[.pointer (some ⟨b, 0, none⟩)] w fun e w' => e = .returned (.int .u8 0) ∧ ∃ n, w' = w.drewN n := by
  have h0 := h.c0; have h1 := h.c1; have h2 := h.c2
  have hi' : (T.size : Int) ≤ (i : Int) := by omega
  go_enter Tryz.func129, Tryz.ntmps129
  go_wp2_with fail
  go_quiet (fail)
  go_wp2_with fail
  go_ret
  exact ⟨rfl, _, rfl⟩

set_option maxHeartbeats 400000 in
theorem peek_failed {rv : Value} (b i : Nat) (T : ByteArray) (w : World) (h : Rd b rv T i true w) :
    Calls Tryz.prog 129 #[.pointer (some ⟨b, 0, none⟩)] w fun e w' => e = .returned (.int .u8 0) ∧ ∃ n, w' = w.drewN n := by
  have h0 := h.c0; have h1 := h.c1; have h2 := h.c2
  go_enter Tryz.func129, Tryz.ntmps129
  go_wp2_with fail
  go_quiet (fail)
  go_wp2_with fail
  go_ret
  exact ⟨rfl, _, rfl⟩

theorem peek_any {rv : Value} (b i : Nat) (f : Bool) (T : ByteArray) (w : World) (h : Rd b rv T i f w) :
    Calls Tryz.prog 129 #[.pointer (some ⟨b, 0, none⟩)] w fun e w' => e = .returned (.int .u8 ((pk T.data.toList (i, f) : Nat) : Int)) ∧ ∃ n, w' = w.drewN n := by
  cases f with
  | true => exact (peek_failed b i T w h).mono fun e w' ⟨he, hw⟩ => ⟨by rw [he]; simp [pk], hw⟩
  | false =>
    by_cases hi : i < T.size
    · exact (peek_in b i T w h hi).mono fun e w' ⟨he, hw⟩ => ⟨by rw [he]; simp [pk, byt_arr T i hi], hw⟩
    · have : byt T.data.toList i = 0 := byt_out (by simp; simpa using hi)
      exact (peek_end b i T w h (by omega)).mono fun e w' ⟨he, hw⟩ => ⟨by rw [he]; simp [pk, this], hw⟩


set_option maxHeartbeats 400000 in
theorem skip_failed {rv : Value} (b i c : Nat) (T : ByteArray) (w : World) (h : Rd b rv T i true w) :
    Calls Tryz.prog 81 #[.pointer (some ⟨b, 0, none⟩), .int .u8 (c : Int)] w fun e w' => e = .returned (.bool false) ∧ ∃ n, w' = w.drewN n := by
  have h0 := h.c0; have h1 := h.c1; have h2 := h.c2
  go_enter Tryz.func81, Tryz.ntmps81
  go_wp2_with fail
  go_quiet (fail)
  go_wp2_with fail
  go_ret
  exact ⟨rfl, _, rfl⟩

set_option maxHeartbeats 400000 in
theorem skip_end {rv : Value} (b i c : Nat) (T : ByteArray) (w : World) (h : Rd b rv T i false w) (hi : T.size ≤ i) :
    Calls Tryz.prog 81 #[.pointer (some ⟨b, 0, none⟩), .int .u8 (c : Int)] w fun e w' => e = .returned (.bool false) ∧ ∃ n, w' = w.drewN n := by
  have h0 := h.c0; have h1 := h.c1; have h2 := h.c2
  have hi' : (T.size : Int) ≤ (i : Int) := by omega
  go_enter Tryz.func81, Tryz.ntmps81
  go_wp2_with fail
  go_quiet (fail)
  go_wp2_with fail
  go_ret
  exact ⟨rfl, _, rfl⟩

set_option maxHeartbeats 400000 in
theorem skip_no {rv : Value} (b i c : Nat) (T : ByteArray) (w : World) (h : Rd b rv T i false w) (hi : i < T.size) (hc : T[i].toNat ≠ c) :
    Calls Tryz.prog 81 #[.pointer (some ⟨b, 0, none⟩), .int .u8 (c : Int)] w fun e w' => e = .returned (.bool false) ∧ ∃ n, w' = w.drewN n := by
  have h0 := h.c0; have h1 := h.c1; have h2 := h.c2
  have hi' : (i : Int) < (T.size : Int) := by omega
  have hd : decide ((T.size : Int) ≤ (i : Int)) = false := by simp; omega
  have hn : (((T[i].toNat : Nat) : Int) != (c : Int)) = true := by rw [bne_iff_ne]; omega
  go_enter Tryz.func81, Tryz.ntmps81
  go_wp2_with fail
  go_quiet (fail)
  go_wp2_with fail
  go_ret
  exact ⟨rfl, _, rfl⟩

set_option maxHeartbeats 400000 in
theorem skip_yes {rv : Value} (b i c : Nat) (T : ByteArray) (w : World) (h : Rd b rv T i false w) (hi : i < T.size) (hT : T.size ≤ 600) (hc : T[i].toNat = c) :
    Calls Tryz.prog 81 #[.pointer (some ⟨b, 0, none⟩), .int .u8 (c : Int)] w fun e w' => e = .returned (.bool true) ∧ Rd b rv T (i + 1) false w' ∧ Aside b w w' := by
  have h0 := h.c0; have h1 := h.c1; have h2 := h.c2; have z1 := h.z 1
  have hi' : (i : Int) < (T.size : Int) := by omega
  have hd : decide ((T.size : Int) ≤ (i : Int)) = false := by simp; omega
  have hn : (((T[i].toNat : Nat) : Int) != (c : Int)) = false := by rw [bne_eq_false_iff_eq]; omega
  have hc' : Hid (T[i].toNat = c) := hc
  clear hc
  go_enter Tryz.func81, Tryz.ntmps81
  go_wp2_with fail
  go_quiet (fail)
  go_wp2_with fail
  go_ret
  exact ⟨rfl, Rd.setAt (w := w.drewN nq) h (i + 1) rfl, ((Aside.refl b w).drewN nq).setCell (Or.inl rfl) _⟩

theorem skip_any {rv : Value} (b i c : Nat) (f : Bool) (T : ByteArray) (w : World) (h : Rd b rv T i f w) (hT : T.size ≤ 600) :
    Calls Tryz.prog 81 #[.pointer (some ⟨b, 0, none⟩), .int .u8 (c : Int)] w fun e w' => e = .returned (.bool (sk T.data.toList c (i, f))) ∧ Rd b rv T (skS T.data.toList c (i, f)).1 (skS T.data.toList c (i, f)).2 w' ∧ Aside b w w' := by
  cases f with
  | true =>
    refine (skip_failed b i c T w h).mono ?_
    rintro e w' ⟨he, n, hw⟩
    subst hw; refine ⟨by rw [he]; simp [sk], ?_, (Aside.refl b w).drewN n⟩
    simpa [sk, skS] using h.drewN n
  | false =>
    by_cases hi : i < T.size
    · by_cases hc : T[i].toNat = c
      · have e : sk T.data.toList c (i, false) = true := by
          have : byt T.data.toList i = c := by rw [← byt_arr T i hi]; exact hc
          simp [sk, this]; exact hi
        exact (skip_yes b i c T w h hi hT hc).mono fun e' w' ⟨he, hr, ha⟩ => by
          refine ⟨by rw [he, e], ?_, ha⟩
          simpa [skS, e] using hr
      · have e : sk T.data.toList c (i, false) = false := by
          have : ¬ byt T.data.toList i = c := by rw [← byt_arr T i hi]; exact hc
          simp [sk, this]
        exact (skip_no b i c T w h hi hc).mono fun e' w' ⟨he, n, hw⟩ => by
          subst hw; refine ⟨by rw [he, e], ?_, (Aside.refl b w).drewN n⟩
          simpa [skS, e] using h.drewN n
    · have e : sk T.data.toList c (i, false) = false := by
        simp [sk]; intro h'; exact absurd h' (by simpa using hi)
      exact (skip_end b i c T w h (by omega)).mono fun e' w' ⟨he, n, hw⟩ => by
        subst hw; refine ⟨by rw [he, e], ?_, (Aside.refl b w).drewN n⟩
        simpa [skS, e] using h.drewN n

end Go.Proofs.YtanknpmojblmcaaGreatDoor
