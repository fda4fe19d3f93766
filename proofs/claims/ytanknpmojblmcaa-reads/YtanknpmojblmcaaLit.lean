/-
  The station's lit and begun.
-/
import Derived.Test.YtanknpmojblmcaaStat
set_option linter.unusedSimpArgs false
set_option linter.unusedVariables false
namespace Go.Proofs.Ytanknpmojblmcaa
open Go.RowKit

theorem bs_byt (l : List UInt8) (i : Nat) (h : i < (bs l).size) : (bs l)[i].toNat = byt l i := by
  rw [byt_arr _ _ h, bs_list]

set_option maxHeartbeats 1000000 in
/-- Behind the piece: no byte of it fits. -/
theorem lit_no (b c : Nat) (s : ST) (w : World) (h : St b s w) (hw : s.which ≤ 12) (hk : s.k ≤ 10) (hc : c < 256) (hn : ¬ (s.k < (pieceL s.which).length ∧ byt (pieceL s.which) s.k = c)) :
    Calls Try.prog 38 #[.pointer (some ⟨b, 0, none⟩), .int .u8 (c : Int)] w fun e w' => Ans b (litO s c) w w' e := by
  have HO : Hid (litO s c = none) := by show _ = _; simp only [litO]; rw [if_neg hn]
  have c1 := h.c 1; have c2 := h.c 2
  simp [stC] at c1 c2
  go_enter Try.func38, Try.ntmps38
  go_wp2_with fail
  refine (piece_any s.which hw _).mono ?_
  rintro e w1 ⟨rfl, o, hw1⟩
  have h1 : St b s w1 := by rw [hw1]; exact h.alloc _
  have ha : Aside b w w1 := by rw [hw1]; exact (Aside.refl b w).alloc _
  have c1 := h1.c 1; have c2 := h1.c 2
  simp [stC] at c1 c2
  have hs := bs_size (pieceL s.which)
  clear hw1
  by_cases hl : s.k < (pieceL s.which).length
  · have hl' : s.k < (bs (pieceL s.which)).size := by omega
    have hb := bs_byt (pieceL s.which) s.k hl'
    have hl2 : (s.k : Int) < ((bs (pieceL s.which)).size : Int) := by omega
    have hl3 : decide (((bs (pieceL s.which)).size : Int) ≤ (s.k : Int)) = false := by simp; omega
    have hne : ((((bs (pieceL s.which))[s.k].toNat : Nat) : Int) != (c : Int)) = true := by rw [bne_iff_ne, hb]; intro e; exact hn ⟨hl, by omega⟩
    clear hs hb hl hn
    go_wp2_with fail
    go_ret
    exact Ans.no ha HO.out
  · have hl2 : ((bs (pieceL s.which)).size : Int) ≤ (s.k : Int) := by omega
    clear hs hl hn
    go_wp2_with fail
    go_ret
    exact Ans.no ha HO.out

set_option maxHeartbeats 1000000 in
/-- In the middle of the piece. -/
theorem lit_mid (b c : Nat) (s : ST) (w : World) (h : St b s w) (hw : s.which ≤ 12) (hk : s.k ≤ 10) (hc : c < 256) (hl : s.k + 1 < (pieceL s.which).length) (hbc : byt (pieceL s.which) s.k = c) :
    Calls Try.prog 38 #[.pointer (some ⟨b, 0, none⟩), .int .u8 (c : Int)] w fun e w' => Ans b (litO s c) w w' e := by
  have HO : Hid (litO s c = some { s with k := s.k + 1 }) := by show _ = _; simp only [litO]; rw [if_pos ⟨by omega, hbc⟩, if_pos hl]
  have c1 := h.c 1; have c2 := h.c 2
  simp [stC] at c1 c2
  go_enter Try.func38, Try.ntmps38
  go_wp2_with fail
  refine (piece_any s.which hw _).mono ?_
  rintro e w1 ⟨rfl, o, hw1⟩
  have h1 : St b s w1 := by rw [hw1]; exact h.alloc _
  have ha : Aside b w w1 := by rw [hw1]; exact (Aside.refl b w).alloc _
  have c1 := h1.c 1; have c2 := h1.c 2; have z1 := h1.z 1
  simp [stC] at c1 c2
  have hs := bs_size (pieceL s.which)
  clear hw1
  have hl' : s.k < (bs (pieceL s.which)).size := by omega
  have hb := bs_byt (pieceL s.which) s.k hl'
  have hl2 : (s.k : Int) < ((bs (pieceL s.which)).size : Int) := by omega
  have hl3 : decide (((bs (pieceL s.which)).size : Int) ≤ (s.k : Int)) = false := by simp; omega
  have hl4 : (s.k : Int) + 1 < ((bs (pieceL s.which)).size : Int) := by omega
  have hne : ((((bs (pieceL s.which))[s.k].toNat : Nat) : Int) != (c : Int)) = false := by rw [bne_eq_false_iff_eq, hb]; omega
  clear hs hb hl hbc
  go_wp2_with fail
  go_ret
  exact Ans.yes (ha.setCell (Or.inl rfl) _) HO.out (h1.set 1 _ (by simp [stC]))

end Go.Proofs.Ytanknpmojblmcaa
