/-
  The document's answer: spare, Plain.
-/
import Derived.Test.YtanknpmojblmcaaRefC
set_option linter.unusedSimpArgs false
set_option linter.unusedVariables false
namespace Go.Proofs.Ytanknpmojblmcaa
open Go.RowKit

theorem spareI_yes {W : List UInt8} {f i : Nat} (h : spareAt W i = true) : spareI W (f + 1) i = some i := by rw [spareI, if_pos h]
theorem spareI_no {W : List UInt8} {f i : Nat} (h : spareAt W i = false) : spareI W (f + 1) i = spareI W f (i + 1) := by rw [spareI, if_neg (by rw [h]; decide)]
/-- The value of spareAt, of what was seen. -/
theorem spareAt_eq {W : List UInt8} {i : Nat} (h : byt W i = 40) (x y : Bool) (hx : (decide (0 < i) && byt W (i - 1) == 38) = x) (hy : (byt W (clo W i + 1) == 38) = y) : spareAt W i = ((!x && !y) || cutN (cut W (i + 1) (clo W i)) 124 == 1) := by
  unfold spareAt; rw [hx, hy, h]; simp
theorem owns_slice {w : World} {base : Nat} {e : TypeId} {size : Nat} {v : Value} {n : Nat} {xs : List Value} (h : w.ownsRow base e size v n xs) (hn : 0 < n) : ∃ g cap, v = .slice (some ⟨g, 0, none⟩) n cap := by
  rcases h.2 with ⟨_, h0⟩ | ⟨g, cap, cur, hv, _⟩
  · omega
  · exact ⟨g, cap, hv⟩
theorem cutNI_pos (W : List UInt8) (c : Nat) (f : Nat) : ∀ k n m, m + 1 ≤ cutNI W c f k n m ∧ cutNI W c f k n m ≤ m + 1 + f := by
  induction f with
  | zero => intro k n m; simp [cutNI]
  | succ f ih =>
    intro k n m
    unfold cutNI
    split
    · have := ih (k + 1) (n + 1) m; omega
    split
    · have := ih (k + 1) (n - 1) m; omega
    split
    · have := ih (k + 1) n (m + 1); omega
    · have := ih (k + 1) n m; omega
theorem cutN_pos (W : List UInt8) (c : Nat) : 1 ≤ cutN W c ∧ cutN W c ≤ 1 + W.length := by
  have := cutNI_pos W c W.length 0 0 0; unfold cutN; omega

set_option maxHeartbeats 8000000 in
theorem spare_any (W : ByteArray) (w : World) (hW : W.size ≤ 600) (hbal : Bal W.data.toList) :
    Calls Try.prog 59 #[.string W] w fun e w' => e = .returned (.int .i64 (oi (spareO W.data.toList))) ∧ Below w.heap.size w w' := by
  have hlen : W.data.toList.length = W.size := by simp
  have HN : Hid (spareO W.data.toList = spareI W.data.toList W.size 0) := by show _ = _; unfold spareO; rw [hlen]
  have HLEN : Hid (W.data.toList.length = W.size) := hlen
  have HBAL : Hid (Bal W.data.toList) := hbal
  clear hlen hbal
  go_enter Try.func59, Try.ntmps59
  go_wp2_with fail
  go_loopg [3] W.size (fun g x wr => ∃ (i : Nat), g = W.size - i ∧ i ≤ W.size ∧ x = .int .i64 (i : Int) ∧ Below w.heap.size w wr ∧ Hid (spareI W.data.toList W.size 0 = spareI W.data.toList (W.size - i) i))
  case atStart => exact ⟨0, rfl, by omega, rfl, Below.refl _ _, rfl⟩
  case round =>
    obtain ⟨i, rfl, hi, rfl, hB, HL⟩ := hrel
    by_cases hlt : i < W.size
    · have hlt' : (i : Int) < (W.size : Int) := by omega
      have e1 : W.size - i = (W.size - (i + 1)) + 1 := by omega
      have hbb := byt_arr W i hlt
      by_cases h40 : byt W.data.toList i = 40
      · have f1 : ((W[i].toNat : Int) != 40) = false := by rw [bne_eq_false_iff_eq]; omega
        have hcl := HBAL.out i h40
        rw [HLEN.out] at hcl
        have HE : Hid (W.size - i = (W.size - (i + 1)) + 1) := e1
        have H40 : Hid (byt W.data.toList i = 40) := h40
        clear e1 hbb h40
        go_wp2_with fail
        refine (closing_any W i _ hW hlt).mono ?_
        rintro e w1 ⟨rfl, hw1⟩
        subst hw1
        have HK : Hid (∀ x y, (decide (0 < i) && byt W.data.toList (i - 1) == 38) = x → (byt W.data.toList (clo W.data.toList i + 1) == 38) = y → spareAt W.data.toList i = ((!x && !y) || cutN (cut W.data.toList (i + 1) (clo W.data.toList i)) 124 == 1)) := fun x y => spareAt_eq H40.out x y
        generalize clo W.data.toList i = k at *
        obtain ⟨hk1, hk2⟩ := hcl
        have g1 : (i : Int) + 1 ≤ (k : Int) := by omega
        have g2 : (k : Int) ≤ (W.size : Int) := by omega
        have hcp := cutN_pos (cut W.data.toList (i + 1) k) 124
        have hcl2 : (cut W.data.toList (i + 1) k).length ≤ 600 := by rw [cut_len _ _ _ (by rw [HLEN.out]; omega)]; omega
        have HCUT : Hid ((W.extract (i + 1) k).data.toList = cut W.data.toList (i + 1) k) := by show _ = _; rw [bs_extract, bs_list]
        have hxs : (W.extract (i + 1) k).size ≤ 600 := by simp; omega
        have HX : Hid (W.extract (i + 1) k = W.extract (i + 1) k) := rfl
        cases i with
        | zero =>
          have HXX : Hid ((decide (0 < 0) && byt W.data.toList (0 - 1) == 38) = false) := by show _ = _; simp
          by_cases ha : k + 1 < W.size
          · have a1 : (k : Int) + 1 < (W.size : Int) := by omega
            have hba := byt_arr W (k + 1) ha
            by_cases ha38 : byt W.data.toList (k + 1) = 38
            · have f8 : ((W[k + 1].toNat : Int) == 38) = true := by rw [beq_iff_eq]; omega
              have HY : Hid ((byt W.data.toList (k + 1) == 38) = true) := by show _ = _; simp [ha38]
              clear hba ha38
              have hsp := HK.out false true HXX.out HY.out
              have HSP : Hid _ := hsp
              clear hsp HK
              go_wp2_with fail
              refine (Cut_any (W.extract (0 + 1) k) 124 _ hxs (by decide)).mono ?_
              rintro e w2 ⟨v, xs, rfl, hown, hB2⟩
              rw [HCUT.out] at hown
              replace hB2 := hB.trans (hB2.mono hB.size)
              obtain ⟨gg, cap, rfl⟩ := owns_slice hown (by omega)
              generalize cutN (cut W.data.toList (0 + 1) k) 124 = cc at *
              by_cases h1 : cc = 1
              · have HL2 : Hid (spareO W.data.toList = some (0)) := by show _ = _; rw [HN.out, HL.out, HE.out, spareI_yes (by rw [HSP.out, h1]; rfl)]
                have f9 : ((cc : Int) == 1) = true := by rw [beq_iff_eq]; omega
                clear HL HN HSP h1
                go_wp2_with fail
                go_ret
                rw [HL2.out]
                exact ⟨rfl, hB2⟩
              · have HL2 : Hid (spareI W.data.toList W.size 0 = spareI W.data.toList (W.size - (0 + 1)) (0 + 1)) := by
                  show _ = _
                  rw [HL.out, HE.out, spareI_no (by rw [HSP.out]; simp [h1])]
                have f9 : ((cc : Int) == 1) = false := by rw [beq_eq_false_iff_ne]; omega
                clear HL HN HSP h1
                go_wp2_with fail
                go_roundg (W.size - (0 + 1))
                case measure => omega
                case rel => exact ⟨0 + 1, rfl, hlt, by go_num, hB2, HL2⟩
            · have f8 : ((W[k + 1].toNat : Int) == 38) = false := by rw [beq_eq_false_iff_ne]; omega
              have HY : Hid ((byt W.data.toList (k + 1) == 38) = false) := by show _ = _; simp [ha38]
              clear hba ha38
              have hsp := HK.out false false HXX.out HY.out
              have HSP : Hid _ := hsp
              clear hsp HK
              go_wp2_with fail
              refine (Cut_any (W.extract (0 + 1) k) 124 _ hxs (by decide)).mono ?_
              rintro e w2 ⟨v, xs, rfl, hown, hB2⟩
              rw [HCUT.out] at hown
              replace hB2 := hB.trans (hB2.mono hB.size)
              obtain ⟨gg, cap, rfl⟩ := owns_slice hown (by omega)
              have HL2 : Hid (spareO W.data.toList = some (0)) := by show _ = _; rw [HN.out, HL.out, HE.out, spareI_yes (by rw [HSP.out]; rfl)]
              clear HL HN HSP
              go_wp2_with fail
              go_ret
              rw [HL2.out]
              exact ⟨rfl, hB2⟩
          · have a1 : decide ((k : Int) + 1 < (W.size : Int)) = false := by simp; omega
            have HY : Hid ((byt W.data.toList (k + 1) == 38) = false) := by show _ = _; rw [byt_out (by rw [HLEN.out]; omega)]; rfl
            have hsp := HK.out false false HXX.out HY.out
            have HSP : Hid _ := hsp
            clear hsp HK
            go_wp2_with fail
            refine (Cut_any (W.extract (0 + 1) k) 124 _ hxs (by decide)).mono ?_
            rintro e w2 ⟨v, xs, rfl, hown, hB2⟩
            rw [HCUT.out] at hown
            replace hB2 := hB.trans (hB2.mono hB.size)
            obtain ⟨gg, cap, rfl⟩ := owns_slice hown (by omega)
            have HL2 : Hid (spareO W.data.toList = some (0)) := by show _ = _; rw [HN.out, HL.out, HE.out, spareI_yes (by rw [HSP.out]; rfl)]
            clear HL HN HSP
            go_wp2_with fail
            go_ret
            rw [HL2.out]
            exact ⟨rfl, hB2⟩
        | succ j =>
          have b0 : j < W.size := by omega
          have b1 : (j : Int) < (W.size : Int) := by omega
          have hbj := byt_arr W j b0
          by_cases h38 : byt W.data.toList j = 38
          · have f7 : ((W[j].toNat : Int) == 38) = true := by rw [beq_iff_eq]; omega
            have HXX : Hid ((decide (0 < j + 1) && byt W.data.toList (j + 1 - 1) == 38) = true) := by show _ = _; simp [h38]
            clear hbj h38
            by_cases ha : k + 1 < W.size
            · have a1 : (k : Int) + 1 < (W.size : Int) := by omega
              have hba := byt_arr W (k + 1) ha
              by_cases ha38 : byt W.data.toList (k + 1) = 38
              · have f8 : ((W[k + 1].toNat : Int) == 38) = true := by rw [beq_iff_eq]; omega
                have HY : Hid ((byt W.data.toList (k + 1) == 38) = true) := by show _ = _; simp [ha38]
                clear hba ha38
                have hsp := HK.out true true HXX.out HY.out
                have HSP : Hid _ := hsp
                clear hsp HK
                go_wp2_with fail
                refine (Cut_any (W.extract (j + 1 + 1) k) 124 _ hxs (by decide)).mono ?_
                rintro e w2 ⟨v, xs, rfl, hown, hB2⟩
                rw [HCUT.out] at hown
                replace hB2 := hB.trans (hB2.mono hB.size)
                obtain ⟨gg, cap, rfl⟩ := owns_slice hown (by omega)
                generalize cutN (cut W.data.toList (j + 1 + 1) k) 124 = cc at *
                by_cases h1 : cc = 1
                · have HL2 : Hid (spareO W.data.toList = some (j + 1)) := by show _ = _; rw [HN.out, HL.out, HE.out, spareI_yes (by rw [HSP.out, h1]; rfl)]
                  have f9 : ((cc : Int) == 1) = true := by rw [beq_iff_eq]; omega
                  clear HL HN HSP h1
                  go_wp2_with fail
                  go_ret
                  rw [HL2.out]
                  exact ⟨rfl, hB2⟩
                · have HL2 : Hid (spareI W.data.toList W.size 0 = spareI W.data.toList (W.size - (j + 1 + 1)) (j + 1 + 1)) := by
                    show _ = _
                    rw [HL.out, HE.out, spareI_no (by rw [HSP.out]; simp [h1])]
                  have f9 : ((cc : Int) == 1) = false := by rw [beq_eq_false_iff_ne]; omega
                  clear HL HN HSP h1
                  go_wp2_with fail
                  go_roundg (W.size - (j + 1 + 1))
                  case measure => omega
                  case rel => exact ⟨j + 1 + 1, rfl, hlt, by go_num, hB2, HL2⟩
              · have f8 : ((W[k + 1].toNat : Int) == 38) = false := by rw [beq_eq_false_iff_ne]; omega
                have HY : Hid ((byt W.data.toList (k + 1) == 38) = false) := by show _ = _; simp [ha38]
                clear hba ha38
                have hsp := HK.out true false HXX.out HY.out
                have HSP : Hid _ := hsp
                clear hsp HK
                go_wp2_with fail
                refine (Cut_any (W.extract (j + 1 + 1) k) 124 _ hxs (by decide)).mono ?_
                rintro e w2 ⟨v, xs, rfl, hown, hB2⟩
                rw [HCUT.out] at hown
                replace hB2 := hB.trans (hB2.mono hB.size)
                obtain ⟨gg, cap, rfl⟩ := owns_slice hown (by omega)
                generalize cutN (cut W.data.toList (j + 1 + 1) k) 124 = cc at *
                by_cases h1 : cc = 1
                · have HL2 : Hid (spareO W.data.toList = some (j + 1)) := by show _ = _; rw [HN.out, HL.out, HE.out, spareI_yes (by rw [HSP.out, h1]; rfl)]
                  have f9 : ((cc : Int) == 1) = true := by rw [beq_iff_eq]; omega
                  clear HL HN HSP h1
                  go_wp2_with fail
                  go_ret
                  rw [HL2.out]
                  exact ⟨rfl, hB2⟩
                · have HL2 : Hid (spareI W.data.toList W.size 0 = spareI W.data.toList (W.size - (j + 1 + 1)) (j + 1 + 1)) := by
                    show _ = _
                    rw [HL.out, HE.out, spareI_no (by rw [HSP.out]; simp [h1])]
                  have f9 : ((cc : Int) == 1) = false := by rw [beq_eq_false_iff_ne]; omega
                  clear HL HN HSP h1
                  go_wp2_with fail
                  go_roundg (W.size - (j + 1 + 1))
                  case measure => omega
                  case rel => exact ⟨j + 1 + 1, rfl, hlt, by go_num, hB2, HL2⟩
            · have a1 : decide ((k : Int) + 1 < (W.size : Int)) = false := by simp; omega
              have HY : Hid ((byt W.data.toList (k + 1) == 38) = false) := by show _ = _; rw [byt_out (by rw [HLEN.out]; omega)]; rfl
              have hsp := HK.out true false HXX.out HY.out
              have HSP : Hid _ := hsp
              clear hsp HK
              go_wp2_with fail
              refine (Cut_any (W.extract (j + 1 + 1) k) 124 _ hxs (by decide)).mono ?_
              rintro e w2 ⟨v, xs, rfl, hown, hB2⟩
              rw [HCUT.out] at hown
              replace hB2 := hB.trans (hB2.mono hB.size)
              obtain ⟨gg, cap, rfl⟩ := owns_slice hown (by omega)
              generalize cutN (cut W.data.toList (j + 1 + 1) k) 124 = cc at *
              by_cases h1 : cc = 1
              · have HL2 : Hid (spareO W.data.toList = some (j + 1)) := by show _ = _; rw [HN.out, HL.out, HE.out, spareI_yes (by rw [HSP.out, h1]; rfl)]
                have f9 : ((cc : Int) == 1) = true := by rw [beq_iff_eq]; omega
                clear HL HN HSP h1
                go_wp2_with fail
                go_ret
                rw [HL2.out]
                exact ⟨rfl, hB2⟩
              · have HL2 : Hid (spareI W.data.toList W.size 0 = spareI W.data.toList (W.size - (j + 1 + 1)) (j + 1 + 1)) := by
                  show _ = _
                  rw [HL.out, HE.out, spareI_no (by rw [HSP.out]; simp [h1])]
                have f9 : ((cc : Int) == 1) = false := by rw [beq_eq_false_iff_ne]; omega
                clear HL HN HSP h1
                go_wp2_with fail
                go_roundg (W.size - (j + 1 + 1))
                case measure => omega
                case rel => exact ⟨j + 1 + 1, rfl, hlt, by go_num, hB2, HL2⟩
          · have f7 : ((W[j].toNat : Int) == 38) = false := by rw [beq_eq_false_iff_ne]; omega
            have HXX : Hid ((decide (0 < j + 1) && byt W.data.toList (j + 1 - 1) == 38) = false) := by show _ = _; simp [h38]
            clear hbj h38
            by_cases ha : k + 1 < W.size
            · have a1 : (k : Int) + 1 < (W.size : Int) := by omega
              have hba := byt_arr W (k + 1) ha
              by_cases ha38 : byt W.data.toList (k + 1) = 38
              · have f8 : ((W[k + 1].toNat : Int) == 38) = true := by rw [beq_iff_eq]; omega
                have HY : Hid ((byt W.data.toList (k + 1) == 38) = true) := by show _ = _; simp [ha38]
                clear hba ha38
                have hsp := HK.out false true HXX.out HY.out
                have HSP : Hid _ := hsp
                clear hsp HK
                go_wp2_with fail
                refine (Cut_any (W.extract (j + 1 + 1) k) 124 _ hxs (by decide)).mono ?_
                rintro e w2 ⟨v, xs, rfl, hown, hB2⟩
                rw [HCUT.out] at hown
                replace hB2 := hB.trans (hB2.mono hB.size)
                obtain ⟨gg, cap, rfl⟩ := owns_slice hown (by omega)
                generalize cutN (cut W.data.toList (j + 1 + 1) k) 124 = cc at *
                by_cases h1 : cc = 1
                · have HL2 : Hid (spareO W.data.toList = some (j + 1)) := by show _ = _; rw [HN.out, HL.out, HE.out, spareI_yes (by rw [HSP.out, h1]; rfl)]
                  have f9 : ((cc : Int) == 1) = true := by rw [beq_iff_eq]; omega
                  clear HL HN HSP h1
                  go_wp2_with fail
                  go_ret
                  rw [HL2.out]
                  exact ⟨rfl, hB2⟩
                · have HL2 : Hid (spareI W.data.toList W.size 0 = spareI W.data.toList (W.size - (j + 1 + 1)) (j + 1 + 1)) := by
                    show _ = _
                    rw [HL.out, HE.out, spareI_no (by rw [HSP.out]; simp [h1])]
                  have f9 : ((cc : Int) == 1) = false := by rw [beq_eq_false_iff_ne]; omega
                  clear HL HN HSP h1
                  go_wp2_with fail
                  go_roundg (W.size - (j + 1 + 1))
                  case measure => omega
                  case rel => exact ⟨j + 1 + 1, rfl, hlt, by go_num, hB2, HL2⟩
              · have f8 : ((W[k + 1].toNat : Int) == 38) = false := by rw [beq_eq_false_iff_ne]; omega
                have HY : Hid ((byt W.data.toList (k + 1) == 38) = false) := by show _ = _; simp [ha38]
                clear hba ha38
                have hsp := HK.out false false HXX.out HY.out
                have HSP : Hid _ := hsp
                clear hsp HK
                go_wp2_with fail
                refine (Cut_any (W.extract (j + 1 + 1) k) 124 _ hxs (by decide)).mono ?_
                rintro e w2 ⟨v, xs, rfl, hown, hB2⟩
                rw [HCUT.out] at hown
                replace hB2 := hB.trans (hB2.mono hB.size)
                obtain ⟨gg, cap, rfl⟩ := owns_slice hown (by omega)
                have HL2 : Hid (spareO W.data.toList = some (j + 1)) := by show _ = _; rw [HN.out, HL.out, HE.out, spareI_yes (by rw [HSP.out]; rfl)]
                clear HL HN HSP
                go_wp2_with fail
                go_ret
                rw [HL2.out]
                exact ⟨rfl, hB2⟩
            · have a1 : decide ((k : Int) + 1 < (W.size : Int)) = false := by simp; omega
              have HY : Hid ((byt W.data.toList (k + 1) == 38) = false) := by show _ = _; rw [byt_out (by rw [HLEN.out]; omega)]; rfl
              have hsp := HK.out false false HXX.out HY.out
              have HSP : Hid _ := hsp
              clear hsp HK
              go_wp2_with fail
              refine (Cut_any (W.extract (j + 1 + 1) k) 124 _ hxs (by decide)).mono ?_
              rintro e w2 ⟨v, xs, rfl, hown, hB2⟩
              rw [HCUT.out] at hown
              replace hB2 := hB.trans (hB2.mono hB.size)
              obtain ⟨gg, cap, rfl⟩ := owns_slice hown (by omega)
              have HL2 : Hid (spareO W.data.toList = some (j + 1)) := by show _ = _; rw [HN.out, HL.out, HE.out, spareI_yes (by rw [HSP.out]; rfl)]
              clear HL HN HSP
              go_wp2_with fail
              go_ret
              rw [HL2.out]
              exact ⟨rfl, hB2⟩
      · have f1 : ((W[i].toNat : Int) != 40) = true := by rw [bne_iff_ne]; omega
        have HL2 : Hid (spareI W.data.toList W.size 0 = spareI W.data.toList (W.size - (i + 1)) (i + 1)) := by
          show _ = _
          rw [HL.out, e1, spareI_no (by unfold spareAt; simp [h40])]
        clear e1 hbb h40 HL
        go_wp2_with fail
        go_roundg (W.size - (i + 1))
        case measure => omega
        case rel => exact ⟨i + 1, rfl, hlt, by go_num, hB, HL2⟩
    · have hlt' : decide ((i : Int) < (W.size : Int)) = false := by simp; omega
      have HL2 : Hid (spareO W.data.toList = none) := by show _ = _; rw [HN.out, HL.out, show W.size - i = 0 from by omega]; rfl
      clear HL HN
      go_wp2_with fail
      go_ret
      rw [HL2.out]
      exact ⟨rfl, hB⟩

end Go.Proofs.Ytanknpmojblmcaa
