/-
  The reader's ref, command and seesHead.
-/
import Derived.Test.YtanknpmojblmcaaGreatDoorNum
set_option linter.unusedSimpArgs false
set_option linter.unusedVariables false
namespace Go.Proofs.YtanknpmojblmcaaGreatDoor
open Go.RowKit

theorem ret_bool {a b : Bool} (h : a = b) : Ending.returned (.bool a) = .returned (.bool b) := by rw [h]
theorem ex_byt (T : ByteArray) (i j k : Nat) (h : k < (T.extract i j).size) : (T.extract i j)[k].toNat = byt T.data.toList (i + k) := by
  rw [byt_arr _ _ h]
  have h' : k < min j T.size - i := by simpa using h
  simp only [byt, ByteArray.data_extract, List.getD_eq_getElem?_getD, Array.getElem?_toList, Array.getElem?_extract]
  rw [if_pos (by show k < min j T.data.size - i; simpa using h')]

theorem nmS_le {L : List UInt8} {i : Nat} {f : Bool} (h : i ≤ L.length) : (nmS L (i, f)).1 ≤ L.length := by
  cases f with
  | true => simpa [nmS] using h
  | false => have := (lets_le L 6 i h).1; simp [nmS]; omega

set_option maxHeartbeats 400000 in
theorem command_any {rv : Value} (b i : Nat) (f : Bool) (T : ByteArray) (w : World) (h : Rd b rv T i f w) (hT : T.size ≤ 600) (hi : i ≤ T.size) :
    Calls Tryz.prog 80 #[.pointer (some ⟨b, 0, none⟩)] w fun e w' => e = .returned (.tuple #[]) ∧ Rd b rv T (toNl T.data.toList i) f w' ∧ Aside b w w' := by
  go_enter Tryz.func80, Tryz.ntmps80
  go_wp2_with fail
  go_loopg [] (700 - i) (fun g wr => ∃ k : Nat, g = 700 - k ∧ k ≤ T.size ∧ Rd b rv T k f wr ∧ Aside b w wr ∧ Hid (toNl T.data.toList i = toNl T.data.toList k))
  case atStart => exact ⟨i, rfl, hi, h, Aside.refl b w, rfl⟩
  case round =>
    obtain ⟨k, rfl, hk, hr, ha, hw⟩ := hrel
    have r0 := hr.c0; have r1 := hr.c1; have z1 := hr.z 1
    have hlen : T.data.toList.length = T.size := by simp
    by_cases hlt : k < T.size
    · have hlt' : (k : Int) < (T.size : Int) := by omega
      by_cases hc : byt T.data.toList k = 10
      · have e : Hid (toNl T.data.toList i = k) := hw.out.trans (toNl_at (by omega) hc)
        have hb : (((T[k].toNat : Nat) : Int) != 10) = false := by rw [byt_arr T k hlt, hc]; rfl
        clear hc hw hlen
        go_wp2_with fail
        go_quiet (fail)
        go_wp2_with fail
        go_end0
        rw [e.out]
        exact ⟨rfl, hr.drewN nq, ha.drewN nq⟩
      · have e : Hid (toNl T.data.toList i = toNl T.data.toList (k + 1)) := hw.out.trans (toNl_step (by omega) hc)
        have hb : (((T[k].toNat : Nat) : Int) != 10) = true := by rw [byt_arr T k hlt, bne_iff_ne]; omega
        clear hc hw hlen
        go_wp2_with fail
        go_quiet (fail)
        go_wp2_with fail
        go_roundg (700 - (k + 1))
        case measure => omega
        case rel => exact ⟨k + 1, rfl, by omega, Rd.setAt (w := wr.drewN nq) hr (k + 1) (by go_num), (ha.drewN nq).setCell (Or.inl rfl) _, e⟩
    · have e : Hid (toNl T.data.toList i = k) := hw.out.trans (toNl_end (by omega))
      have hlt' : decide ((k : Int) < (T.size : Int)) = false := by simp; omega
      clear hw hlen
      go_wp2_with fail
      go_quiet (fail)
      go_wp2_with fail
      go_end0
      rw [e.out]
      exact ⟨rfl, hr.drewN nq, ha.drewN nq⟩

set_option maxHeartbeats 400000 in
theorem seesHead_any {rv : Value} (b i : Nat) (f : Bool) (T : ByteArray) (w : World) (h : Rd b rv T i f w) (hT : T.size ≤ 600) (hi : i ≤ T.size) :
    Calls Tryz.prog 78 #[.pointer (some ⟨b, 0, none⟩)] w fun e w' => e = .returned (.bool (seesB T.data.toList i)) ∧ ∃ n, w' = w.drewN n := by
  have h0 := h.c0; have h1 := h.c1
  have hi' : (i : Int) ≤ (T.size : Int) := by omega
  go_enter Tryz.func78, Tryz.ntmps78
  go_wp2_with fail
  go_quiet (fail)
  go_wp2_with fail
  · go_ret
    refine ⟨ret_bool ?_, _, rfl⟩
    have hs0 : 0 < (T.extract i T.size).size := by simp; omega
    have hs1 : 1 < (T.extract i T.size).size := by simp; omega
    have e0 : (T.extract i T.size)[0].toNat = byt T.data.toList (i + 0) := ex_byt T i T.size 0 (by simp; omega)
    have e1 : (T.extract i T.size)[1].toNat = byt T.data.toList (i + 1) := ex_byt T i T.size 1 (by simp; omega)
    have h35 : ((T.extract i T.size)[0].toNat : Int) = 35 := by assumption
    rw [e0] at h35
    show (((T.extract i T.size)[1].toNat : Int) == 74) = _
    rw [e1]
    have h35' : byt T.data.toList i = 35 := by simpa using Int.ofNat_inj.1 h35
    rw [Bool.eq_iff_iff]
    simp [seesB, h35']; omega
  · go_ret
    refine ⟨ret_bool ?_, _, rfl⟩
    have hs0 : 0 < (T.extract i T.size).size := by simp; omega
    have hs1 : 1 < (T.extract i T.size).size := by simp; omega
    have e0 : (T.extract i T.size)[0].toNat = byt T.data.toList (i + 0) := ex_byt T i T.size 0 (by simp; omega)
    have h35 : ¬ ((T.extract i T.size)[0].toNat : Int) = 35 := by assumption
    rw [e0] at h35
    have h35' : ¬ byt T.data.toList i = 35 := by intro e; apply h35; simp [e]
    show false = _
    simp [seesB, h35']
  · go_ret
    refine ⟨ret_bool ?_, _, rfl⟩
    have h0 : byt T.data.toList (i + 1) = 0 := byt_out (by simp; omega)
    show false = _
    simp [seesB, h0]

end Go.Proofs.YtanknpmojblmcaaGreatDoor
