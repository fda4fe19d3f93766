/-
  The reader's ref, command and seesHead.
-/
import Derived.Test.YtkmdmlpkbidpoaaNum
set_option linter.unusedSimpArgs false
set_option linter.unusedVariables false
namespace Go.Proofs.Ytkmdmlpkbidpoaa
open Go.RowKit

theorem ret_bool {a b : Bool} (h : a = b) : Ending.returned (.bool a) = .returned (.bool b) := by rw [h]
theorem ex_byt (T : ByteArray) (i j k : Nat) (h : k < (T.extract i j).size) : (T.extract i j)[k].toNat = byt T.data.toList (i + k) := by
  rw [byt_arr _ _ h]
  have h' : k < min j T.size - i := by simpa using h
  simp only [byt, ByteArray.data_extract, List.getD_eq_getElem?_getD, Array.getElem?_toList, Array.getElem?_extract]
  rw [if_pos (by show k < min j T.data.size - i; simpa using h')]

theorem nmS_le {L : List UInt8} {i : Nat} {f : Bool} (h : i ≤ L.length) : (nmS L (i, f)).1 ≤ L.length := by
  cases f with
  | true => simpa [nmS] using h
  | false => have := (lets_le L 6 i h).1; simp [nmS]; omega

set_option maxHeartbeats 400000 in
theorem ref_any (b i : Nat) (f : Bool) (T : ByteArray) (w : World) (h : Rd b T i f w) (hT : T.size ≤ 600) (hi : i ≤ T.size) :
    Calls Try.prog 53 #[.pointer (some ⟨b, 0, none⟩)] w fun e w' => e = .returned (.tuple #[]) ∧ Rd b T (refS T.data.toList (i, f)).1 (refS T.data.toList (i, f)).2 w' ∧ Aside b w w' := by
  go_enter Try.func53, Try.ntmps53
  go_wp2_with fail
  refine (name_any b i f T _ h hT hi).mono ?_
  rintro e w1 ⟨rfl, hr1, ha1⟩
  have HR : Hid (refS T.data.toList (i, f) = if sk T.data.toList 91 (nmS T.data.toList (i, f)) then wd T.data.toList [93] (numS T.data.toList ((nmS T.data.toList (i, f)).1 + 1, (nmS T.data.toList (i, f)).2)) else nmS T.data.toList (i, f)) := rfl
  generalize nmS T.data.toList (i, f) = s1 at *
  obtain ⟨i1, f1⟩ := s1
  go_wp2_with fail
  refine (skip_any b i1 91 f1 T _ hr1 hT).mono ?_
  rintro e w2 ⟨rfl, hr2, ha2⟩
  cases hs : sk T.data.toList 91 (i1, f1) with
  | false =>
    have HR2 : Hid (refS T.data.toList (i, f) = (i1, f1)) := by show _ = _; rw [HR.out, hs]; rfl
    have hr3 : Rd b T i1 f1 w2 := hr2.of (by simp [skS, hs]) (by simp [skS, hs])
    clear hs HR hr2
    go_wp2_with fail
    go_end0
    rw [HR2.out]
    exact ⟨rfl, hr3, ha1.trans ha2⟩
  | true =>
    have HR2 : Hid (refS T.data.toList (i, f) = wd T.data.toList [93] (numS T.data.toList (i1 + 1, f1))) := by show _ = _; rw [HR.out, hs]; rfl
    have hr3 : Rd b T (i1 + 1) f1 w2 := hr2.of (by simp [skS, hs]) (by simp [skS, hs])
    clear hs HR hr2
    go_wp2_with fail
    refine (rnumber_any b (i1 + 1) f1 T _ hr3 hT).mono ?_
    rintro e w3 ⟨rfl, hr4, ha4⟩
    generalize numS T.data.toList (i1 + 1, f1) = s2 at *
    obtain ⟨i2, f2⟩ := s2
    go_wp2_with fail
    refine (word_any b i2 f2 T ⟨#[93]⟩ _ hr4 hT (by decide)).mono ?_
    rintro e w4 ⟨rfl, hr5, ha5⟩
    go_wp2_with fail
    go_end0
    rw [HR2.out]
    exact ⟨rfl, hr5, ((ha1.trans ha2).trans ha4).trans ha5⟩

set_option maxHeartbeats 400000 in
theorem command_any (b i : Nat) (f : Bool) (T : ByteArray) (w : World) (h : Rd b T i f w) (hT : T.size ≤ 600) (hi : i ≤ T.size) :
    Calls Try.prog 21 #[.pointer (some ⟨b, 0, none⟩)] w fun e w' => e = .returned (.tuple #[]) ∧ Rd b T (toNl T.data.toList i) f w' ∧ Aside b w w' := by
  go_enter Try.func21, Try.ntmps21
  go_wp2_with fail
  go_loopg [] (700 - i) (fun g wr => ∃ k : Nat, g = 700 - k ∧ k ≤ T.size ∧ Rd b T k f wr ∧ Aside b w wr ∧ Hid (toNl T.data.toList i = toNl T.data.toList k))
  case atStart => exact ⟨i, rfl, hi, h, Aside.refl b w, rfl⟩
  case round =>
    obtain ⟨k, rfl, hk, hr, ha, hw⟩ := hrel
    have r0 := hr.c0; have r1 := hr.c1; have z1 := hr.z 1
    have hlen : T.data.toList.length = T.size := by simp
    by_cases hlt : k < T.size
    · have hlt' : (k : Int) < (T.size : Int) := by omega
      by_cases hc : byt T.data.toList k = 10
      · have e : Hid (toNl T.data.toList i = k) := hw.out.trans (toNl_at (by omega) hc)
        have hb : (((T[k].toNat : Nat) : Int) != 10) = false := by rw [byt_arr T k hlt, hc]; rfl
        clear hc hw hlen
        go_wp2_with fail
        go_quiet (fail)
        go_wp2_with fail
        go_end0
        rw [e.out]
        exact ⟨rfl, hr.drewN nq, ha.drewN nq⟩
      · have e : Hid (toNl T.data.toList i = toNl T.data.toList (k + 1)) := hw.out.trans (toNl_step (by omega) hc)
        have hb : (((T[k].toNat : Nat) : Int) != 10) = true := by rw [byt_arr T k hlt, bne_iff_ne]; omega
        clear hc hw hlen
        go_wp2_with fail
        go_quiet (fail)
        go_wp2_with fail
        go_roundg (700 - (k + 1))
        case measure => omega
        case rel => exact ⟨k + 1, rfl, by omega, Rd.setAt (w := wr.drewN nq) hr (k + 1) (by go_num), (ha.drewN nq).setCell (Or.inl rfl) _, e⟩
    · have e : Hid (toNl T.data.toList i = k) := hw.out.trans (toNl_end (by omega))
      have hlt' : decide ((k : Int) < (T.size : Int)) = false := by simp; omega
      clear hw hlen
      go_wp2_with fail
      go_quiet (fail)
      go_wp2_with fail
      go_end0
      rw [e.out]
      exact ⟨rfl, hr.drewN nq, ha.drewN nq⟩

set_option maxHeartbeats 400000 in
theorem seesHead_any (b i : Nat) (f : Bool) (T : ByteArray) (w : World) (h : Rd b T i f w) (hT : T.size ≤ 600) (hi : i ≤ T.size) :
    Calls Try.prog 19 #[.pointer (some ⟨b, 0, none⟩)] w fun e w' => e = .returned (.bool (seesB T.data.toList i)) ∧ ∃ n, w' = w.drewN n := by
  have h0 := h.c0; have h1 := h.c1
  have hi' : (i : Int) ≤ (T.size : Int) := by omega
  go_enter Try.func19, Try.ntmps19
  go_wp2_with fail
  go_quiet (fail)
  go_wp2_with fail
  · go_ret
    refine ⟨ret_bool ?_, _, rfl⟩
    have hs0 : 0 < (T.extract i T.size).size := by simp; omega
    have hs1 : 1 < (T.extract i T.size).size := by simp; omega
    have e0 : (T.extract i T.size)[0].toNat = byt T.data.toList (i + 0) := ex_byt T i T.size 0 (by simp; omega)
    have e1 : (T.extract i T.size)[1].toNat = byt T.data.toList (i + 1) := ex_byt T i T.size 1 (by simp; omega)
    have h35 : ((T.extract i T.size)[0].toNat : Int) = 35 := by assumption
    rw [e0] at h35
    show (((T.extract i T.size)[1].toNat : Int) == 74) = _
    rw [e1]
    have h35' : byt T.data.toList i = 35 := by simpa using Int.ofNat_inj.1 h35
    rw [Bool.eq_iff_iff]
    simp [seesB, h35']; omega
  · go_ret
    refine ⟨ret_bool ?_, _, rfl⟩
    have hs0 : 0 < (T.extract i T.size).size := by simp; omega
    have hs1 : 1 < (T.extract i T.size).size := by simp; omega
    have e0 : (T.extract i T.size)[0].toNat = byt T.data.toList (i + 0) := ex_byt T i T.size 0 (by simp; omega)
    have h35 : ¬ ((T.extract i T.size)[0].toNat : Int) = 35 := by assumption
    rw [e0] at h35
    have h35' : ¬ byt T.data.toList i = 35 := by intro e; apply h35; simp [e]
    show false = _
    simp [seesB, h35']
  · go_ret
    refine ⟨ret_bool ?_, _, rfl⟩
    have h0 : byt T.data.toList (i + 1) = 0 := byt_out (by simp; omega)
    show false = _
    simp [seesB, h0]

end Go.Proofs.Ytkmdmlpkbidpoaa
