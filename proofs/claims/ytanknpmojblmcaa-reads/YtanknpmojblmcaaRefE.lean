/-
  The document's answer: Plain.
-/
import Derived.Test.YtanknpmojblmcaaRefD
set_option linter.unusedSimpArgs false
set_option linter.unusedVariables false
namespace Go.Proofs.Ytanknpmojblmcaa
open Go.RowKit

theorem spareI_at (W : List UInt8) (f : Nat) : ∀ i p, spareI W f i = some p → byt W p = 40 := by
  induction f with
  | zero => intro i p h; simp [spareI] at h
  | succ f ih =>
    intro i p h
    unfold spareI at h
    split at h
    · rename_i hs
      cases h
      unfold spareAt at hs
      simp at hs; exact hs.1
    · exact ih _ _ h

theorem bs_without (W : ByteArray) (i k : Nat) (h : i ≤ W.size) : W.extract 0 i ++ W.extract (i + 1) k ++ W.extract (k + 1) W.size = bs (without W.data.toList i k) := by
  rw [bs_extract, bs_extract, bs_extract, bs_append, bs_append]
  congr 1
  unfold without cut
  simp
  rw [List.take_of_length_le (by simp)]

theorem PlainOK.bal {f : Nat} {W : List UInt8} (h : PlainOK f W) : Bal W := by cases f <;> exact h.1
theorem without_len {W : List UInt8} {i k : Nat} (h1 : i < k) (h2 : k < W.length) : (without W i k).length + 2 = W.length := by
  unfold without cut; simp; omega

set_option maxHeartbeats 1000000 in
theorem Plain_any (W : ByteArray) (f : Nat) (w : World) (hW : W.size ≤ 600) (hok : PlainOK f W.data.toList) :
    Calls Try.prog 48 #[.string W] w fun e w' => e = .returned (.string (bs (plainI f W.data.toList))) ∧ Below w.heap.size w w' := by
  go_enter Try.func48, Try.ntmps48
  go_wp2_with fail
  refine (spare_any W _ hW hok.bal).mono ?_
  rintro e w1 ⟨rfl, hB1⟩
  go_wp2_with fail
  go_loopg [0, 3] f (fun g y x wr => ∃ (V : ByteArray), V.size ≤ 600 ∧ y = .string V ∧ x = .int .i64 (oi (spareO V.data.toList)) ∧ Below w.heap.size w wr ∧ PlainOK g V.data.toList ∧ Hid (plainI f W.data.toList = plainI g V.data.toList))
  case atStart => exact ⟨W, hW, rfl, rfl, hB1, hok, rfl⟩
  case round =>
    obtain ⟨V, hV, rfl, rfl, hB, hokV, HL⟩ := hrel
    cases hsp : spareO V.data.toList with
    | none =>
      have HL2 : Hid (plainI f W.data.toList = V.data.toList) := by
        show _ = _
        rw [HL.out]
        cases gk with
        | zero => rfl
        | succ n => rw [plainI, hsp]
      clear hsp HL hokV hok
      have ho : oi none = -1 := rfl
      rw [ho]
      clear ho
      go_wp2_with fail
      go_ret
      rw [HL2.out]
      exact ⟨ret_str (bs_of V).symm, hB⟩
    | some p =>
      have hlen : V.data.toList.length = V.size := by simp
      have h40 := spareI_at _ _ _ _ hsp
      have hb := hokV.bal p h40
      rw [hlen] at hb
      obtain ⟨hb1, hb2⟩ := hb
      cases gk with
      | zero => have := hokV.2; rw [hsp] at this; cases this
      | succ n =>
        have hok2 := hokV.2 p hsp
        have HL2 : Hid (plainI f W.data.toList = plainI n (without V.data.toList p (clo V.data.toList p))) := by show _ = _; rw [HL.out, plainI, hsp]
        have hwl := without_len (W := V.data.toList) hb1 (by rw [hlen]; exact hb2)
        rw [hlen] at hwl
        have HOK : Hid _ := hok2
        clear HL hsp hlen h40 hokV hok hok2
        have ho : oi (some p) = (p : Int) := rfl
        rw [ho]
        clear ho
        have hp0 : (0 : Int) ≤ (p : Int) := by omega
        go_wp2_with fail
        refine (closing_any V p _ hV (by omega)).mono ?_
        rintro e w2 ⟨rfl, hw2⟩
        subst hw2
        generalize clo V.data.toList p = k at *
        have g1 : (p : Int) ≤ (V.size : Int) := by omega
        have g2 : (p : Int) + 1 ≤ (k : Int) := by omega
        have g3 : (k : Int) ≤ (V.size : Int) := by omega
        have g4 : (k : Int) + 1 ≤ (V.size : Int) := by omega
        have hs := bs_without V p k (by omega)
        have HS : Hid _ := hs
        clear hs
        go_wp2_with fail
        go_quiet (fail)
        go_wp2_with fail
        rw [HS.out]
        have hbl : (bs (without V.data.toList p k)).size ≤ 600 := by rw [bs_size]; omega
        refine (spare_any (bs (without V.data.toList p k)) _ hbl (by rw [bs_list]; exact HOK.out.bal)).mono ?_
        rintro e w3 ⟨rfl, hB3⟩
        have hB4 : Below w.heap.size w w3 := by
          refine Below.trans (b := w2.drewN nq) ⟨hB.os, hB.tape, hB.output, hB.size, hB.block⟩ (hB3.mono hB.size)
        go_wp2_with fail
        go_roundg n
        case measure => omega
        case rel =>
          refine ⟨bs (without V.data.toList p k), hbl, rfl, rfl, hB4, ?_, ?_⟩
          · rw [bs_list]; exact HOK.out
          · show _ = _
            rw [bs_list]; exact HL2.out

end Go.Proofs.Ytanknpmojblmcaa
