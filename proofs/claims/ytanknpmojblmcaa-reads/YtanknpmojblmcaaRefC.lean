/-
  The document's answer: Cut, spare.
-/
import Derived.Test.YtanknpmojblmcaaRefB
import Derived.Test.YtanknpmojblmcaaReadW
set_option linter.unusedSimpArgs false
set_option linter.unusedVariables false
namespace Go.Proofs.Ytanknpmojblmcaa
open Go.RowKit

theorem infoStr : (Try.prog.info? 9).map (fun i => (i.zero, i.size, i.bytes)) = some (some (.string ⟨#[]⟩), 1, 16) := by kernel_rfl

theorem cutNI_40 {W : List UInt8} {c f k m : Nat} {n : Int} (h : byt W k = 40) : cutNI W c (f + 1) k n m = cutNI W c f (k + 1) (n + 1) m := by rw [cutNI, if_pos h]
theorem cutNI_41 {W : List UInt8} {c f k m : Nat} {n : Int} (h : byt W k = 41) : cutNI W c (f + 1) k n m = cutNI W c f (k + 1) (n - 1) m := by rw [cutNI, if_neg (by omega), if_pos h]
theorem cutNI_c {W : List UInt8} {c f k m : Nat} {n : Int} (h1 : byt W k ≠ 40) (h2 : byt W k ≠ 41) (h : byt W k = c ∧ n = 0) : cutNI W c (f + 1) k n m = cutNI W c f (k + 1) n (m + 1) := by rw [cutNI, if_neg h1, if_neg h2, if_pos h]
theorem cutNI_o {W : List UInt8} {c f k m : Nat} {n : Int} (h1 : byt W k ≠ 40) (h2 : byt W k ≠ 41) (h : ¬ (byt W k = c ∧ n = 0)) : cutNI W c (f + 1) k n m = cutNI W c f (k + 1) n m := by rw [cutNI, if_neg h1, if_neg h2, if_neg h]

set_option maxHeartbeats 2000000 in
theorem Cut_any (W : ByteArray) (c : Nat) (w : World) (hW : W.size ≤ 600) (hc : c < 256) :
    Calls Try.prog 69 #[.string W, .int .u8 (c : Int)] w fun e w' => ∃ v xs, e = .returned v ∧ w'.ownsRow w.heap.size 9 1 v (cutN W.data.toList c) xs ∧ Below w.heap.size w w' := by
  obtain ⟨i0, hi, hz0, hz1, hz2⟩ := info_parts infoStr
  have hlen : W.data.toList.length = W.size := by simp
  have HN : Hid (cutN W.data.toList c = cutNI W.data.toList c W.size 0 0 0) := by show _ = _; unfold cutN; rw [hlen]
  clear hlen
  go_enter Try.func69, Try.ntmps69
  go_wp2_with fail
  go_loopg [5, 6, 7, 8] W.size (fun g v u y x wr => ∃ (k a m : Nat) (n : Int) (xs : List Value), g = W.size - k ∧ k ≤ W.size ∧ a ≤ k ∧ m ≤ k ∧ -(k : Int) ≤ n ∧ n ≤ (k : Int) ∧ x = .int .i64 (k : Int) ∧ y = .int .i64 (a : Int) ∧ u = .int .i64 n ∧ wr.ownsRow w.heap.size 9 1 v m xs ∧ Below w.heap.size w wr ∧ Hid (cutNI W.data.toList c W.size 0 0 0 = cutNI W.data.toList c (W.size - k) k n m))
  case atStart => exact ⟨0, 0, 0, 0, [], rfl, by omega, by omega, by omega, by omega, by omega, rfl, rfl, rfl, World.ownsRow_nil _ _ _ _, Below.refl _ _, rfl⟩
  case round =>
    obtain ⟨k, a, m, n, xs, rfl, hk, hak, hmk, hn1, hn2, rfl, rfl, rfl, hown, hB, HL⟩ := hrel
    have q1 := hB.size
    by_cases hlt : k < W.size
    · have hlt' : (k : Int) < (W.size : Int) := by omega
      have e1 : W.size - k = (W.size - (k + 1)) + 1 := by omega
      have hbb := byt_arr W k hlt
      by_cases h40 : byt W.data.toList k = 40
      · have HL2 : Hid (cutNI W.data.toList c W.size 0 0 0 = cutNI W.data.toList c (W.size - (k + 1)) (k + 1) (n + 1) m) := by show _ = _; rw [HL.out, e1, cutNI_40 h40]
        have f1 : ((W[k].toNat : Int) == 40) = true := by rw [beq_iff_eq]; omega
        clear HL e1 hbb h40 HN
        go_wp2_with fail
        go_roundg (W.size - (k + 1))
        case measure => omega
        case rel => exact ⟨k + 1, a, m, n + 1, xs, rfl, by omega, by omega, by omega, by omega, by omega, by go_num, rfl, rfl, hown, hB, HL2⟩
      by_cases h41 : byt W.data.toList k = 41
      · have HL2 : Hid (cutNI W.data.toList c W.size 0 0 0 = cutNI W.data.toList c (W.size - (k + 1)) (k + 1) (n - 1) m) := by show _ = _; rw [HL.out, e1, cutNI_41 h41]
        have f1 : ((W[k].toNat : Int) == 40) = false := by rw [beq_eq_false_iff_ne]; omega
        have f2 : ((W[k].toNat : Int) == 41) = true := by rw [beq_iff_eq]; omega
        clear HL e1 hbb h40 h41 HN
        go_wp2_with fail
        go_roundg (W.size - (k + 1))
        case measure => omega
        case rel => exact ⟨k + 1, a, m, n - 1, xs, rfl, by omega, by omega, by omega, by omega, by omega, by go_num, rfl, rfl, hown, hB, HL2⟩
      have f1 : ((W[k].toNat : Int) == 40) = false := by rw [beq_eq_false_iff_ne]; omega
      have f2 : ((W[k].toNat : Int) == 41) = false := by rw [beq_eq_false_iff_ne]; omega
      by_cases hcn : byt W.data.toList k = c ∧ n = 0
      · have HL2 : Hid (cutNI W.data.toList c W.size 0 0 0 = cutNI W.data.toList c (W.size - (k + 1)) (k + 1) n (m + 1)) := by show _ = _; rw [HL.out, e1, cutNI_c h40 h41 hcn]
        have f3 : ((W[k].toNat : Int) == (c : Int)) = true := by rw [beq_iff_eq]; omega
        have f4 : (n == 0) = true := by rw [beq_iff_eq]; omega
        have hak' : (a : Int) ≤ (k : Int) := by omega
        clear HL e1 hbb h40 h41 hcn HN
        go_wp2_with (at_builtin; refine wpList_append_own _ rfl _ _ 103 rfl w.heap.size 9 i0 (.string ⟨#[]⟩) 1 16 Try.underlying103 hi hz0 hz1 hz2 rfl (by decide) _ _ _ rfl (hown.alloc _) ⟨wr.heap.size, 0, none⟩ 1 1 [.string (W.extract a k)] rfl rfl ?c1 ?c2 ?c3 ?c4 ?c5 ?_)
        case c1 => exact (cell_one_new _ _ _)
        case c2 => intro u hu; simp at hu; subst hu; rfl
        case c3 => unfold maxLen; omega
        case c4 => omega
        case c5 => simp; omega
        intro v4 w4 hown4 hgrow4 _
        have hB4 : Below w.heap.size w w4 := (hB.alloc (by omega) _).grown hgrow4 (by simp; omega) (fun k hk => (hown.lt k hk).1)
        clear hgrow4 hown hB
        go_wp2_with fail
        go_roundg (W.size - (k + 1))
        case measure => omega
        case rel => exact ⟨k + 1, k + 1, m + 1, n, _, rfl, by omega, by omega, by omega, by omega, by omega, by go_num, by go_num, rfl, hown4, hB4, HL2⟩
      · have HL2 : Hid (cutNI W.data.toList c W.size 0 0 0 = cutNI W.data.toList c (W.size - (k + 1)) (k + 1) n m) := by show _ = _; rw [HL.out, e1, cutNI_o h40 h41 hcn]
        by_cases h3 : byt W.data.toList k = c
        · have f3 : ((W[k].toNat : Int) == (c : Int)) = true := by rw [beq_iff_eq]; omega
          have f4 : (n == 0) = false := by rw [beq_eq_false_iff_ne]; intro e; exact hcn ⟨h3, e⟩
          clear HL e1 hbb h40 h41 hcn HN h3
          go_wp2_with fail
          go_roundg (W.size - (k + 1))
          case measure => omega
          case rel => exact ⟨k + 1, a, m, n, xs, rfl, by omega, by omega, by omega, by omega, by omega, by go_num, rfl, rfl, hown, hB, HL2⟩
        · have f3 : ((W[k].toNat : Int) == (c : Int)) = false := by rw [beq_eq_false_iff_ne]; omega
          clear HL e1 hbb h40 h41 hcn HN h3
          go_wp2_with fail
          go_roundg (W.size - (k + 1))
          case measure => omega
          case rel => exact ⟨k + 1, a, m, n, xs, rfl, by omega, by omega, by omega, by omega, by omega, by go_num, rfl, rfl, hown, hB, HL2⟩
    · have hlt' : decide ((k : Int) < (W.size : Int)) = false := by simp; omega
      have HL2 : Hid (cutN W.data.toList c = m + 1) := by show _ = _; rw [HN.out, HL.out, show W.size - k = 0 from by omega, cutNI]
      have haW : (a : Int) ≤ (W.size : Int) := by omega
      clear HL HN
      go_wp2_with (at_builtin; refine wpList_append_own _ rfl _ _ 103 rfl w.heap.size 9 i0 (.string ⟨#[]⟩) 1 16 Try.underlying103 hi hz0 hz1 hz2 rfl (by decide) _ _ _ rfl (hown.alloc _) ⟨wr.heap.size, 0, none⟩ 1 1 [.string (W.extract a W.size)] rfl rfl ?c1 ?c2 ?c3 ?c4 ?c5 ?_)
      case c1 => exact (cell_one_new _ _ _)
      case c2 => intro u hu; simp at hu; subst hu; rfl
      case c3 => unfold maxLen; omega
      case c4 => omega
      case c5 => simp; omega
      intro v4 w4 hown4 hgrow4 _
      have hB4 : Below w.heap.size w w4 := (hB.alloc (by omega) _).grown hgrow4 (by simp; omega) (fun k hk => (hown.lt k hk).1)
      clear hgrow4 hown hB
      go_wp2_with fail
      go_ret
      rw [HL2.out]
      exact ⟨_, _, rfl, hown4, hB4⟩

end Go.Proofs.Ytanknpmojblmcaa
