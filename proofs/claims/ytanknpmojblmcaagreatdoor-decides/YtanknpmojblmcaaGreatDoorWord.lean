/-
  The reader's word.
-/
import Derived.Test.YtanknpmojblmcaaGreatDoorSkip
namespace Go.Proofs.YtanknpmojblmcaaGreatDoor
open Go.RowKit

theorem drop_byt {L : List UInt8} {k : Nat} (h : k < L.length) : L.drop k = (L[k]) :: L.drop (k + 1) := List.drop_eq_getElem_cons h

theorem wd_step {L W : List UInt8} {k : Nat} (hk : k < W.length) (s : Nat × Bool) :
    wd L (W.drop k) s = if sk L (byt W k) s then wd L (W.drop (k + 1)) (s.1 + 1, s.2) else (s.1, true) := by
  rw [drop_byt hk]
  have : byt W k = W[k].toNat := by simp [byt, List.getD_eq_getElem?_getD, List.getElem?_eq_getElem hk]
  rw [this]; rfl

set_option maxHeartbeats 400000 in
theorem word_any {rv : Value} (b i : Nat) (f : Bool) (T W : ByteArray) (w : World) (h : Rd b rv T i f w) (hT : T.size ≤ 600) (hW : W.size ≤ 20) :
    Calls Tryz.prog 111 #[.pointer (some ⟨b, 0, none⟩), .string W] w fun e w' => e = .returned (.tuple #[]) ∧ Rd b rv T (wd T.data.toList W.data.toList (i, f)).1 (wd T.data.toList W.data.toList (i, f)).2 w' ∧ Aside b w w' := by
  go_enter Tryz.func111, Tryz.ntmps111
  go_wp2_with fail
  go_loopw [4] (fun x wr => ∃ k : Nat, k ≤ W.size ∧ x = .int .i64 k ∧ Rd b rv T (i + k) f wr ∧ Aside b w wr ∧ Hid (wd T.data.toList W.data.toList (i, f) = wd T.data.toList (W.data.toList.drop k) (i + k, f))) (fun x _ => W.size - (intOf x).toNat)
  case atStart => exact ⟨0, Nat.zero_le _, rfl, h, Aside.refl b w, rfl⟩
  case round =>
    obtain ⟨k, hk, rfl, hr, ha, hw⟩ := hrel
    by_cases hlt : k < W.size
    · have hlt' : (k : Int) < (W.size : Int) := by omega
      go_wp2_with fail
      refine (skip_any b (i + k) W[k].toNat f T _ hr hT).mono ?_
      rintro e w1 ⟨rfl, hr1, ha1⟩
      rw [byt_arr W k hlt] at hr1 ⊢
      have hst := wd_step (L := T.data.toList) (W := W.data.toList) (k := k) (by simpa using hlt) (i + k, f)
      cases hsk : sk T.data.toList (byt W.data.toList k) (i + k, f) with
      | true =>
        rw [hsk] at hst
        have hst' : Hid (wd T.data.toList W.data.toList (i, f) = wd T.data.toList (W.data.toList.drop (k + 1)) (i + (k + 1), f)) := hw.out.trans (by simpa [Nat.add_assoc] using hst)
        have hr2 : Rd b rv T (i + (k + 1)) f w1 := hr1.of (by simp [skS, hsk]; omega) (by simp [skS, hsk])
        clear hsk hst hr1 hw
        go_wp2_with fail
        go_roundw
        case rel => exact ⟨k + 1, by omega, by go_num, hr2, ha.trans ha1, hst'⟩
        case measure => simp [intOf]; omega
      | false =>
        rw [hsk] at hst
        have hst' : Hid (wd T.data.toList W.data.toList (i, f) = (i + k, true)) := hw.out.trans (by simpa using hst)
        have hr2 : Rd b rv T (i + k) f w1 := hr1.of (by simp [skS, hsk]) (by simp [skS, hsk])
        clear hsk hst hr1 hw
        have z2 := hr2.z 2
        have c2 := hr2.c2
        go_wp2_with fail
        refine bodyPost_ret (results_none rfl _ _ _) rfl ?_
        refine ⟨rfl, ?_, (ha.trans ha1).setCell (Or.inl rfl) _⟩
        rw [hst'.out]; exact hr2.setFail
    · go_wp2_with fail
      go_end0
      have e : W.data.toList.drop k = [] := List.drop_eq_nil_of_le (by simp; omega)
      refine ⟨rfl, ?_, ha⟩
      rw [hw.out, e]; exact hr

end Go.Proofs.YtanknpmojblmcaaGreatDoor
