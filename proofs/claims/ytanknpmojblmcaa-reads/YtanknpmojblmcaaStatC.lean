/-
  The station's line, name and number.
-/
import Derived.Test.YtanknpmojblmcaaStatB
set_option linter.unusedSimpArgs false
set_option linter.unusedVariables false
namespace Go.Proofs.Ytanknpmojblmcaa
open Go.RowKit

theorem cast48 (c : Nat) : ((c : Int) == 48) = (c == 48) := by rw [Bool.eq_iff_iff]; simp; omega

set_option maxHeartbeats 1000000 in
theorem line_nl (b c : Nat) (s : ST) (n : Nat) (hn : n ≤ 1000) (w : World) (h : St b s w) (ok : OKS s n) (hc : c < 256) (g0 : c = 10) :
    Calls Try.prog 44 #[.pointer (some ⟨b, 0, none⟩), .int .u8 (c : Int)] w fun e w' => Ans b (lineO s c) w w' e := by
  have HO : Hid (lineO s c = some (goS s 0 0)) := by show _ = _; simp [lineO, g0]
  have l1 := ok.k; have l2 := ok.which; have l3 := ok.op; have l4 := ok.hd; have l5 := ok.wh
  have c0 := h.c 0; have z0 := h.z 0
  have c1 := h.c 1; have z1 := h.z 1
  have c2 := h.c 2; have z2 := h.z 2
  have c3 := h.c 3; have z3 := h.z 3
  have c4 := h.c 4; have z4 := h.z 4
  have c5 := h.c 5; have z5 := h.z 5
  simp [stC] at c0 c1 c2 c3 c4 c5
  have f0 : ((c : Int) == 10) = true := by rw [beq_iff_eq]; omega
  clear g0
  go_enter Try.func44, Try.ntmps44
  go_wp2_with fail
  refine (goes_any b s 0 0 0 0 rfl rfl _ h).mono ?_
  rintro e w2 ⟨rfl, h2, ha2⟩
  go_wp2_with fail
  go_ret
  exact Ans.yes ha2 HO.out h2

set_option maxHeartbeats 1000000 in
theorem line_hash (b c : Nat) (s : ST) (n : Nat) (hn : n ≤ 1000) (w : World) (h : St b s w) (ok : OKS s n) (hc : c < 256) (g0 : c ≠ 10) (g1 : s.wh = 0) (g2 : c = 35) :
    Calls Try.prog 44 #[.pointer (some ⟨b, 0, none⟩), .int .u8 (c : Int)] w fun e w' => Ans b (lineO s c) w w' e := by
  have HO : Hid (lineO s c = some (goS s 1 0)) := by show _ = _; simp [lineO, g1, g2]
  have l1 := ok.k; have l2 := ok.which; have l3 := ok.op; have l4 := ok.hd; have l5 := ok.wh
  have c0 := h.c 0; have z0 := h.z 0
  have c1 := h.c 1; have z1 := h.z 1
  have c2 := h.c 2; have z2 := h.z 2
  have c3 := h.c 3; have z3 := h.z 3
  have c4 := h.c 4; have z4 := h.z 4
  have c5 := h.c 5; have z5 := h.z 5
  simp [stC] at c0 c1 c2 c3 c4 c5
  have f0 : ((c : Int) == 10) = false := by rw [beq_eq_false_iff_ne]; omega
  have f1 : ((s.wh : Int) == 0) = true := by rw [beq_iff_eq]; omega
  have f2 : ((c : Int) == 35) = true := by rw [beq_iff_eq]; omega
  clear g0 g1 g2
  go_enter Try.func44, Try.ntmps44
  go_wp2_with fail
  refine (goes_any b s 1 0 1 0 rfl rfl _ h).mono ?_
  rintro e w2 ⟨rfl, h2, ha2⟩
  go_wp2_with fail
  go_ret
  exact Ans.yes ha2 HO.out h2

set_option maxHeartbeats 1000000 in
theorem line_J (b c : Nat) (s : ST) (n : Nat) (hn : n ≤ 1000) (w : World) (h : St b s w) (ok : OKS s n) (hc : c < 256) (g0 : c ≠ 10) (g1 : s.wh = 1) (g2 : c = 74) :
    Calls Try.prog 44 #[.pointer (some ⟨b, 0, none⟩), .int .u8 (c : Int)] w fun e w' => Ans b (lineO s c) w w' e := by
  have HO : Hid (lineO s c = some (goS { s with hd := s.hd + 1, op := 0 } 3 0)) := by show _ = _; simp [lineO, g1, g2]
  have l1 := ok.k; have l2 := ok.which; have l3 := ok.op; have l4 := ok.hd; have l5 := ok.wh
  have c0 := h.c 0; have z0 := h.z 0
  have c1 := h.c 1; have z1 := h.z 1
  have c2 := h.c 2; have z2 := h.z 2
  have c3 := h.c 3; have z3 := h.z 3
  have c4 := h.c 4; have z4 := h.z 4
  have c5 := h.c 5; have z5 := h.z 5
  simp [stC] at c0 c1 c2 c3 c4 c5
  have f0 : ((c : Int) == 10) = false := by rw [beq_eq_false_iff_ne]; omega
  have f1 : ((s.wh : Int) == 0) = false := by rw [beq_eq_false_iff_ne]; omega
  have f2 : ((s.wh : Int) == 1) = true := by rw [beq_iff_eq]; omega
  have f3 : ((c : Int) == 74) = true := by rw [beq_iff_eq]; omega
  clear g0 g1 g2
  go_enter Try.func44, Try.ntmps44
  go_wp2_with fail
  have q1 : St b { s with hd := s.hd + 1, op := 0 } ((w.setCell ⟨b, 5, none⟩ (.int .i64 ((s.hd : Int) + 1))).setCell ⟨b, 3, none⟩ (.int .i64 0)) := St.set (s := { s with hd := s.hd + 1 }) (h.set 5 _ (by simp [stC])) 3 _ (by simp [stC])
  have q2 : Aside b w ((w.setCell ⟨b, 5, none⟩ (.int .i64 ((s.hd : Int) + 1))).setCell ⟨b, 3, none⟩ (.int .i64 0)) := ((Aside.refl b w).setCell (Or.inl rfl) _).setCell (Or.inl rfl) _
  refine (goes_any b _ 3 0 3 0 rfl rfl _ q1).mono ?_
  rintro e w2 ⟨rfl, h2, ha2⟩
  go_wp2_with fail
  go_ret
  exact Ans.yes (q2.trans ha2) HO.out h2

set_option maxHeartbeats 1000000 in
theorem line_o0 (b c : Nat) (s : ST) (n : Nat) (hn : n ≤ 1000) (w : World) (h : St b s w) (ok : OKS s n) (hc : c < 256) (g0 : c ≠ 10) (g1 : s.wh = 0) (g2 : c ≠ 35) :
    Calls Try.prog 44 #[.pointer (some ⟨b, 0, none⟩), .int .u8 (c : Int)] w fun e w' => Ans b (lineO s c) w w' e := by
  have HO : Hid (lineO s c = some (goS s 2 0)) := by show _ = _; simp [lineO, g0, g1, g2]
  have l1 := ok.k; have l2 := ok.which; have l3 := ok.op; have l4 := ok.hd; have l5 := ok.wh
  have c0 := h.c 0; have z0 := h.z 0
  have c1 := h.c 1; have z1 := h.z 1
  have c2 := h.c 2; have z2 := h.z 2
  have c3 := h.c 3; have z3 := h.z 3
  have c4 := h.c 4; have z4 := h.z 4
  have c5 := h.c 5; have z5 := h.z 5
  simp [stC] at c0 c1 c2 c3 c4 c5
  have f0 : ((c : Int) == 10) = false := by rw [beq_eq_false_iff_ne]; omega
  have f1 : ((s.wh : Int) == 0) = true := by rw [beq_iff_eq]; omega
  have f2 : ((c : Int) == 35) = false := by rw [beq_eq_false_iff_ne]; omega
  have f3 : ((s.wh : Int) == 1) = false := by rw [beq_eq_false_iff_ne]; omega
  clear g0 g1 g2
  go_enter Try.func44, Try.ntmps44
  go_wp2_with fail
  refine (goes_any b s 2 0 2 0 rfl rfl _ h).mono ?_
  rintro e w2 ⟨rfl, h2, ha2⟩
  go_wp2_with fail
  go_ret
  exact Ans.yes ha2 HO.out h2

set_option maxHeartbeats 1000000 in
theorem line_o1 (b c : Nat) (s : ST) (n : Nat) (hn : n ≤ 1000) (w : World) (h : St b s w) (ok : OKS s n) (hc : c < 256) (g0 : c ≠ 10) (g1 : s.wh = 1) (g2 : c ≠ 74) :
    Calls Try.prog 44 #[.pointer (some ⟨b, 0, none⟩), .int .u8 (c : Int)] w fun e w' => Ans b (lineO s c) w w' e := by
  have HO : Hid (lineO s c = some (goS s 2 0)) := by show _ = _; simp [lineO, g0, g1, g2]
  have l1 := ok.k; have l2 := ok.which; have l3 := ok.op; have l4 := ok.hd; have l5 := ok.wh
  have c0 := h.c 0; have z0 := h.z 0
  have c1 := h.c 1; have z1 := h.z 1
  have c2 := h.c 2; have z2 := h.z 2
  have c3 := h.c 3; have z3 := h.z 3
  have c4 := h.c 4; have z4 := h.z 4
  have c5 := h.c 5; have z5 := h.z 5
  simp [stC] at c0 c1 c2 c3 c4 c5
  have f0 : ((c : Int) == 10) = false := by rw [beq_eq_false_iff_ne]; omega
  have f1 : ((s.wh : Int) == 0) = false := by rw [beq_eq_false_iff_ne]; omega
  have f2 : ((s.wh : Int) == 1) = true := by rw [beq_iff_eq]; omega
  have f3 : ((c : Int) == 74) = false := by rw [beq_eq_false_iff_ne]; omega
  clear g0 g1 g2
  go_enter Try.func44, Try.ntmps44
  go_wp2_with fail
  refine (goes_any b s 2 0 2 0 rfl rfl _ h).mono ?_
  rintro e w2 ⟨rfl, h2, ha2⟩
  go_wp2_with fail
  go_ret
  exact Ans.yes ha2 HO.out h2

set_option maxHeartbeats 1000000 in
theorem line_o2 (b c : Nat) (s : ST) (n : Nat) (hn : n ≤ 1000) (w : World) (h : St b s w) (ok : OKS s n) (hc : c < 256) (g0 : c ≠ 10) (g1 : s.wh ≠ 0) (g2 : s.wh ≠ 1) :
    Calls Try.prog 44 #[.pointer (some ⟨b, 0, none⟩), .int .u8 (c : Int)] w fun e w' => Ans b (lineO s c) w w' e := by
  have HO : Hid (lineO s c = some (goS s 2 0)) := by show _ = _; simp [lineO, g0, g1, g2]
  have l1 := ok.k; have l2 := ok.which; have l3 := ok.op; have l4 := ok.hd; have l5 := ok.wh
  have c0 := h.c 0; have z0 := h.z 0
  have c1 := h.c 1; have z1 := h.z 1
  have c2 := h.c 2; have z2 := h.z 2
  have c3 := h.c 3; have z3 := h.z 3
  have c4 := h.c 4; have z4 := h.z 4
  have c5 := h.c 5; have z5 := h.z 5
  simp [stC] at c0 c1 c2 c3 c4 c5
  have f0 : ((c : Int) == 10) = false := by rw [beq_eq_false_iff_ne]; omega
  have f1 : ((s.wh : Int) == 0) = false := by rw [beq_eq_false_iff_ne]; omega
  have f2 : ((s.wh : Int) == 1) = false := by rw [beq_eq_false_iff_ne]; omega
  clear g0 g1 g2
  go_enter Try.func44, Try.ntmps44
  go_wp2_with fail
  refine (goes_any b s 2 0 2 0 rfl rfl _ h).mono ?_
  rintro e w2 ⟨rfl, h2, ha2⟩
  go_wp2_with fail
  go_ret
  exact Ans.yes ha2 HO.out h2

set_option maxHeartbeats 1000000 in
theorem name_let (b c : Nat) (s : ST) (n : Nat) (hn : n ≤ 1000) (w : World) (h : St b s w) (ok : OKS s n) (hc : c < 256) (g0 : 97 ≤ c ∧ c ≤ 122) (g1 : s.k < 6) :
    Calls Try.prog 39 #[.pointer (some ⟨b, 0, none⟩), .int .u8 (c : Int)] w fun e w' => Ans b (nameO s c) w w' e := by
  have HO : Hid (nameO s c = some { s with k := s.k + 1 }) := by show _ = _; simp only [nameO]; rw [if_pos ⟨by simp [letB]; omega, g1⟩]
  have l1 := ok.k; have l2 := ok.which; have l3 := ok.op; have l4 := ok.hd; have l5 := ok.wh
  have c0 := h.c 0; have z0 := h.z 0
  have c1 := h.c 1; have z1 := h.z 1
  have c2 := h.c 2; have z2 := h.z 2
  have c3 := h.c 3; have z3 := h.z 3
  have c4 := h.c 4; have z4 := h.z 4
  have c5 := h.c 5; have z5 := h.z 5
  simp [stC] at c0 c1 c2 c3 c4 c5
  have f0 : (97 : Int) ≤ (c : Int) := by omega
  have f1 : (c : Int) ≤ (122 : Int) := by omega
  have f2 : (s.k : Int) < (6 : Int) := by omega
  clear g0 g1
  go_enter Try.func39, Try.ntmps39
  go_wp2_with fail
  go_ret
  exact Ans.yes ((Aside.refl b w).setCell (Or.inl rfl) _) HO.out (h.set 1 _ (by simp [stC]))

set_option maxHeartbeats 1000000 in
theorem name_0x (b c : Nat) (s : ST) (n : Nat) (hn : n ≤ 1000) (w : World) (h : St b s w) (ok : OKS s n) (hc : c < 256) (g0 : 97 ≤ c ∧ c ≤ 122 ∧ ¬ s.k < 6) (g1 : s.k = 0) :
    Calls Try.prog 39 #[.pointer (some ⟨b, 0, none⟩), .int .u8 (c : Int)] w fun e w' => Ans b (nameO s c) w w' e := by
  have HO : Hid (nameO s c = none) := by show _ = _; simp only [nameO]; rw [if_neg (by simp [letB]; omega), if_pos g1]
  have l1 := ok.k; have l2 := ok.which; have l3 := ok.op; have l4 := ok.hd; have l5 := ok.wh
  have c0 := h.c 0; have z0 := h.z 0
  have c1 := h.c 1; have z1 := h.z 1
  have c2 := h.c 2; have z2 := h.z 2
  have c3 := h.c 3; have z3 := h.z 3
  have c4 := h.c 4; have z4 := h.z 4
  have c5 := h.c 5; have z5 := h.z 5
  simp [stC] at c0 c1 c2 c3 c4 c5
  have f0 : (97 : Int) ≤ (c : Int) := by omega
  have f1 : (c : Int) ≤ (122 : Int) := by omega
  have f2 : decide ((s.k : Int) < (6 : Int)) = false := by simp; omega
  have f3 : ((s.k : Int) == 0) = true := by rw [beq_iff_eq]; omega
  clear g0 g1
  go_enter Try.func39, Try.ntmps39
  go_wp2_with fail
  go_ret
  exact Ans.no (Aside.refl b w) HO.out

set_option maxHeartbeats 1000000 in
theorem name_4x (b c : Nat) (s : ST) (n : Nat) (hn : n ≤ 1000) (w : World) (h : St b s w) (ok : OKS s n) (hc : c < 256) (g0 : 97 ≤ c ∧ c ≤ 122 ∧ ¬ s.k < 6) (g1 : s.k ≠ 0) (g2 : s.wh = 4) :
    Calls Try.prog 39 #[.pointer (some ⟨b, 0, none⟩), .int .u8 (c : Int)] w fun e w' => Ans b (nameO s c) w w' e := by
  have HO : Hid (nameO s c = begunO s 1 c) := by show _ = _; simp only [nameO]; rw [if_neg (by simp [letB]; omega), if_neg g1, if_pos g2]
  have l1 := ok.k; have l2 := ok.which; have l3 := ok.op; have l4 := ok.hd; have l5 := ok.wh
  have c0 := h.c 0; have z0 := h.z 0
  have c1 := h.c 1; have z1 := h.z 1
  have c2 := h.c 2; have z2 := h.z 2
  have c3 := h.c 3; have z3 := h.z 3
  have c4 := h.c 4; have z4 := h.z 4
  have c5 := h.c 5; have z5 := h.z 5
  simp [stC] at c0 c1 c2 c3 c4 c5
  have f0 : (97 : Int) ≤ (c : Int) := by omega
  have f1 : (c : Int) ≤ (122 : Int) := by omega
  have f2 : decide ((s.k : Int) < (6 : Int)) = false := by simp; omega
  have f3 : ((s.k : Int) == 0) = false := by rw [beq_eq_false_iff_ne]; omega
  have f4 : ((s.wh : Int) == 4) = true := by rw [beq_iff_eq]; omega
  clear g0 g1 g2
  go_enter Try.func39, Try.ntmps39
  go_wp2_with fail
  refine (begun_any b c 1 1 rfl s _ h (by decide) hc).mono ?_
  rintro e w2 ⟨ha2, (⟨s2, ho, rfl, h2⟩ | ⟨ho, rfl⟩)⟩
  · have H2 : Hid _ := ho
    clear ho
    go_wp2_with fail
    go_ret
    exact Ans.yes ha2 (HO.out.trans H2.out) h2
  · have H2 : Hid _ := ho
    clear ho
    go_wp2_with fail
    go_ret
    exact Ans.no ha2 (HO.out.trans H2.out)

set_option maxHeartbeats 1000000 in
theorem name_bx (b c : Nat) (s : ST) (n : Nat) (hn : n ≤ 1000) (w : World) (h : St b s w) (ok : OKS s n) (hc : c < 256) (g0 : 97 ≤ c ∧ c ≤ 122 ∧ ¬ s.k < 6) (g1 : s.k ≠ 0) (g2 : s.wh ≠ 4) (g3 : c ≠ 91) :
    Calls Try.prog 39 #[.pointer (some ⟨b, 0, none⟩), .int .u8 (c : Int)] w fun e w' => Ans b (nameO s c) w w' e := by
  have HO : Hid (nameO s c = behindO s c) := by show _ = _; simp only [nameO]; rw [if_neg (by simp [letB]; omega), if_neg g1, if_neg g2, if_neg g3]
  have l1 := ok.k; have l2 := ok.which; have l3 := ok.op; have l4 := ok.hd; have l5 := ok.wh
  have c0 := h.c 0; have z0 := h.z 0
  have c1 := h.c 1; have z1 := h.z 1
  have c2 := h.c 2; have z2 := h.z 2
  have c3 := h.c 3; have z3 := h.z 3
  have c4 := h.c 4; have z4 := h.z 4
  have c5 := h.c 5; have z5 := h.z 5
  simp [stC] at c0 c1 c2 c3 c4 c5
  have f0 : (97 : Int) ≤ (c : Int) := by omega
  have f1 : (c : Int) ≤ (122 : Int) := by omega
  have f2 : decide ((s.k : Int) < (6 : Int)) = false := by simp; omega
  have f3 : ((s.k : Int) == 0) = false := by rw [beq_eq_false_iff_ne]; omega
  have f4 : ((s.wh : Int) == 4) = false := by rw [beq_eq_false_iff_ne]; omega
  have f5 : ((c : Int) == 91) = false := by rw [beq_eq_false_iff_ne]; omega
  clear g0 g1 g2 g3
  go_enter Try.func39, Try.ntmps39
  go_wp2_with fail
  refine (sbehind_any b c s n hn _ h ok hc).mono ?_
  rintro e w2 ⟨ha2, (⟨s2, ho, rfl, h2⟩ | ⟨ho, rfl⟩)⟩
  · have H2 : Hid _ := ho
    clear ho
    go_wp2_with fail
    go_ret
    exact Ans.yes ha2 (HO.out.trans H2.out) h2
  · have H2 : Hid _ := ho
    clear ho
    go_wp2_with fail
    go_ret
    exact Ans.no ha2 (HO.out.trans H2.out)

set_option maxHeartbeats 1000000 in
theorem name_0y (b c : Nat) (s : ST) (n : Nat) (hn : n ≤ 1000) (w : World) (h : St b s w) (ok : OKS s n) (hc : c < 256) (g0 : c < 97) (g1 : s.k = 0) :
    Calls Try.prog 39 #[.pointer (some ⟨b, 0, none⟩), .int .u8 (c : Int)] w fun e w' => Ans b (nameO s c) w w' e := by
  have HO : Hid (nameO s c = none) := by show _ = _; simp only [nameO]; rw [if_neg (by simp [letB]; omega), if_pos g1]
  have l1 := ok.k; have l2 := ok.which; have l3 := ok.op; have l4 := ok.hd; have l5 := ok.wh
  have c0 := h.c 0; have z0 := h.z 0
  have c1 := h.c 1; have z1 := h.z 1
  have c2 := h.c 2; have z2 := h.z 2
  have c3 := h.c 3; have z3 := h.z 3
  have c4 := h.c 4; have z4 := h.z 4
  have c5 := h.c 5; have z5 := h.z 5
  simp [stC] at c0 c1 c2 c3 c4 c5
  have f0 : decide ((97 : Int) ≤ (c : Int)) = false := by simp; omega
  have f1 : ((s.k : Int) == 0) = true := by rw [beq_iff_eq]; omega
  clear g0 g1
  go_enter Try.func39, Try.ntmps39
  go_wp2_with fail
  go_ret
  exact Ans.no (Aside.refl b w) HO.out

set_option maxHeartbeats 1000000 in
theorem name_4y (b c : Nat) (s : ST) (n : Nat) (hn : n ≤ 1000) (w : World) (h : St b s w) (ok : OKS s n) (hc : c < 256) (g0 : c < 97) (g1 : s.k ≠ 0) (g2 : s.wh = 4) :
    Calls Try.prog 39 #[.pointer (some ⟨b, 0, none⟩), .int .u8 (c : Int)] w fun e w' => Ans b (nameO s c) w w' e := by
  have HO : Hid (nameO s c = begunO s 1 c) := by show _ = _; simp only [nameO]; rw [if_neg (by simp [letB]; omega), if_neg g1, if_pos g2]
  have l1 := ok.k; have l2 := ok.which; have l3 := ok.op; have l4 := ok.hd; have l5 := ok.wh
  have c0 := h.c 0; have z0 := h.z 0
  have c1 := h.c 1; have z1 := h.z 1
  have c2 := h.c 2; have z2 := h.z 2
  have c3 := h.c 3; have z3 := h.z 3
  have c4 := h.c 4; have z4 := h.z 4
  have c5 := h.c 5; have z5 := h.z 5
  simp [stC] at c0 c1 c2 c3 c4 c5
  have f0 : decide ((97 : Int) ≤ (c : Int)) = false := by simp; omega
  have f1 : ((s.k : Int) == 0) = false := by rw [beq_eq_false_iff_ne]; omega
  have f2 : ((s.wh : Int) == 4) = true := by rw [beq_iff_eq]; omega
  clear g0 g1 g2
  go_enter Try.func39, Try.ntmps39
  go_wp2_with fail
  refine (begun_any b c 1 1 rfl s _ h (by decide) hc).mono ?_
  rintro e w2 ⟨ha2, (⟨s2, ho, rfl, h2⟩ | ⟨ho, rfl⟩)⟩
  · have H2 : Hid _ := ho
    clear ho
    go_wp2_with fail
    go_ret
    exact Ans.yes ha2 (HO.out.trans H2.out) h2
  · have H2 : Hid _ := ho
    clear ho
    go_wp2_with fail
    go_ret
    exact Ans.no ha2 (HO.out.trans H2.out)

set_option maxHeartbeats 1000000 in
theorem name_91y (b c : Nat) (s : ST) (n : Nat) (hn : n ≤ 1000) (w : World) (h : St b s w) (ok : OKS s n) (hc : c < 256) (g0 : c < 97) (g1 : s.k ≠ 0) (g2 : s.wh ≠ 4) (g3 : c = 91) :
    Calls Try.prog 39 #[.pointer (some ⟨b, 0, none⟩), .int .u8 (c : Int)] w fun e w' => Ans b (nameO s c) w w' e := by
  have HO : Hid (nameO s c = some (goS s 5 4)) := by show _ = _; simp only [nameO]; rw [if_neg (by simp [letB]; omega), if_neg g1, if_neg g2, if_pos g3]
  have l1 := ok.k; have l2 := ok.which; have l3 := ok.op; have l4 := ok.hd; have l5 := ok.wh
  have c0 := h.c 0; have z0 := h.z 0
  have c1 := h.c 1; have z1 := h.z 1
  have c2 := h.c 2; have z2 := h.z 2
  have c3 := h.c 3; have z3 := h.z 3
  have c4 := h.c 4; have z4 := h.z 4
  have c5 := h.c 5; have z5 := h.z 5
  simp [stC] at c0 c1 c2 c3 c4 c5
  have f0 : decide ((97 : Int) ≤ (c : Int)) = false := by simp; omega
  have f1 : ((s.k : Int) == 0) = false := by rw [beq_eq_false_iff_ne]; omega
  have f2 : ((s.wh : Int) == 4) = false := by rw [beq_eq_false_iff_ne]; omega
  have f3 : ((c : Int) == 91) = true := by rw [beq_iff_eq]; omega
  clear g0 g1 g2 g3
  go_enter Try.func39, Try.ntmps39
  go_wp2_with fail
  refine (goes_any b s 5 4 5 4 rfl rfl _ h).mono ?_
  rintro e w2 ⟨rfl, h2, ha2⟩
  go_wp2_with fail
  go_ret
  exact Ans.yes ha2 HO.out h2

set_option maxHeartbeats 1000000 in
theorem name_by (b c : Nat) (s : ST) (n : Nat) (hn : n ≤ 1000) (w : World) (h : St b s w) (ok : OKS s n) (hc : c < 256) (g0 : c < 97) (g1 : s.k ≠ 0) (g2 : s.wh ≠ 4) (g3 : c ≠ 91) :
    Calls Try.prog 39 #[.pointer (some ⟨b, 0, none⟩), .int .u8 (c : Int)] w fun e w' => Ans b (nameO s c) w w' e := by
  have HO : Hid (nameO s c = behindO s c) := by show _ = _; simp only [nameO]; rw [if_neg (by simp [letB]; omega), if_neg g1, if_neg g2, if_neg g3]
  have l1 := ok.k; have l2 := ok.which; have l3 := ok.op; have l4 := ok.hd; have l5 := ok.wh
  have c0 := h.c 0; have z0 := h.z 0
  have c1 := h.c 1; have z1 := h.z 1
  have c2 := h.c 2; have z2 := h.z 2
  have c3 := h.c 3; have z3 := h.z 3
  have c4 := h.c 4; have z4 := h.z 4
  have c5 := h.c 5; have z5 := h.z 5
  simp [stC] at c0 c1 c2 c3 c4 c5
  have f0 : decide ((97 : Int) ≤ (c : Int)) = false := by simp; omega
  have f1 : ((s.k : Int) == 0) = false := by rw [beq_eq_false_iff_ne]; omega
  have f2 : ((s.wh : Int) == 4) = false := by rw [beq_eq_false_iff_ne]; omega
  have f3 : ((c : Int) == 91) = false := by rw [beq_eq_false_iff_ne]; omega
  clear g0 g1 g2 g3
  go_enter Try.func39, Try.ntmps39
  go_wp2_with fail
  refine (sbehind_any b c s n hn _ h ok hc).mono ?_
  rintro e w2 ⟨ha2, (⟨s2, ho, rfl, h2⟩ | ⟨ho, rfl⟩)⟩
  · have H2 : Hid _ := ho
    clear ho
    go_wp2_with fail
    go_ret
    exact Ans.yes ha2 (HO.out.trans H2.out) h2
  · have H2 : Hid _ := ho
    clear ho
    go_wp2_with fail
    go_ret
    exact Ans.no ha2 (HO.out.trans H2.out)

set_option maxHeartbeats 1000000 in
theorem name_0z (b c : Nat) (s : ST) (n : Nat) (hn : n ≤ 1000) (w : World) (h : St b s w) (ok : OKS s n) (hc : c < 256) (g0 : 122 < c) (g1 : s.k = 0) :
    Calls Try.prog 39 #[.pointer (some ⟨b, 0, none⟩), .int .u8 (c : Int)] w fun e w' => Ans b (nameO s c) w w' e := by
  have HO : Hid (nameO s c = none) := by show _ = _; simp only [nameO]; rw [if_neg (by simp [letB]; omega), if_pos g1]
  have l1 := ok.k; have l2 := ok.which; have l3 := ok.op; have l4 := ok.hd; have l5 := ok.wh
  have c0 := h.c 0; have z0 := h.z 0
  have c1 := h.c 1; have z1 := h.z 1
  have c2 := h.c 2; have z2 := h.z 2
  have c3 := h.c 3; have z3 := h.z 3
  have c4 := h.c 4; have z4 := h.z 4
  have c5 := h.c 5; have z5 := h.z 5
  simp [stC] at c0 c1 c2 c3 c4 c5
  have f0 : (97 : Int) ≤ (c : Int) := by omega
  have f1 : decide ((c : Int) ≤ (122 : Int)) = false := by simp; omega
  have f2 : ((s.k : Int) == 0) = true := by rw [beq_iff_eq]; omega
  clear g0 g1
  go_enter Try.func39, Try.ntmps39
  go_wp2_with fail
  go_ret
  exact Ans.no (Aside.refl b w) HO.out

set_option maxHeartbeats 1000000 in
theorem name_4z (b c : Nat) (s : ST) (n : Nat) (hn : n ≤ 1000) (w : World) (h : St b s w) (ok : OKS s n) (hc : c < 256) (g0 : 122 < c) (g1 : s.k ≠ 0) (g2 : s.wh = 4) :
    Calls Try.prog 39 #[.pointer (some ⟨b, 0, none⟩), .int .u8 (c : Int)] w fun e w' => Ans b (nameO s c) w w' e := by
  have HO : Hid (nameO s c = begunO s 1 c) := by show _ = _; simp only [nameO]; rw [if_neg (by simp [letB]; omega), if_neg g1, if_pos g2]
  have l1 := ok.k; have l2 := ok.which; have l3 := ok.op; have l4 := ok.hd; have l5 := ok.wh
  have c0 := h.c 0; have z0 := h.z 0
  have c1 := h.c 1; have z1 := h.z 1
  have c2 := h.c 2; have z2 := h.z 2
  have c3 := h.c 3; have z3 := h.z 3
  have c4 := h.c 4; have z4 := h.z 4
  have c5 := h.c 5; have z5 := h.z 5
  simp [stC] at c0 c1 c2 c3 c4 c5
  have f0 : (97 : Int) ≤ (c : Int) := by omega
  have f1 : decide ((c : Int) ≤ (122 : Int)) = false := by simp; omega
  have f2 : ((s.k : Int) == 0) = false := by rw [beq_eq_false_iff_ne]; omega
  have f3 : ((s.wh : Int) == 4) = true := by rw [beq_iff_eq]; omega
  clear g0 g1 g2
  go_enter Try.func39, Try.ntmps39
  go_wp2_with fail
  refine (begun_any b c 1 1 rfl s _ h (by decide) hc).mono ?_
  rintro e w2 ⟨ha2, (⟨s2, ho, rfl, h2⟩ | ⟨ho, rfl⟩)⟩
  · have H2 : Hid _ := ho
    clear ho
    go_wp2_with fail
    go_ret
    exact Ans.yes ha2 (HO.out.trans H2.out) h2
  · have H2 : Hid _ := ho
    clear ho
    go_wp2_with fail
    go_ret
    exact Ans.no ha2 (HO.out.trans H2.out)

set_option maxHeartbeats 1000000 in
theorem name_bz (b c : Nat) (s : ST) (n : Nat) (hn : n ≤ 1000) (w : World) (h : St b s w) (ok : OKS s n) (hc : c < 256) (g0 : 122 < c) (g1 : s.k ≠ 0) (g2 : s.wh ≠ 4) (g3 : c ≠ 91) :
    Calls Try.prog 39 #[.pointer (some ⟨b, 0, none⟩), .int .u8 (c : Int)] w fun e w' => Ans b (nameO s c) w w' e := by
  have HO : Hid (nameO s c = behindO s c) := by show _ = _; simp only [nameO]; rw [if_neg (by simp [letB]; omega), if_neg g1, if_neg g2, if_neg g3]
  have l1 := ok.k; have l2 := ok.which; have l3 := ok.op; have l4 := ok.hd; have l5 := ok.wh
  have c0 := h.c 0; have z0 := h.z 0
  have c1 := h.c 1; have z1 := h.z 1
  have c2 := h.c 2; have z2 := h.z 2
  have c3 := h.c 3; have z3 := h.z 3
  have c4 := h.c 4; have z4 := h.z 4
  have c5 := h.c 5; have z5 := h.z 5
  simp [stC] at c0 c1 c2 c3 c4 c5
  have f0 : (97 : Int) ≤ (c : Int) := by omega
  have f1 : decide ((c : Int) ≤ (122 : Int)) = false := by simp; omega
  have f2 : ((s.k : Int) == 0) = false := by rw [beq_eq_false_iff_ne]; omega
  have f3 : ((s.wh : Int) == 4) = false := by rw [beq_eq_false_iff_ne]; omega
  have f4 : ((c : Int) == 91) = false := by rw [beq_eq_false_iff_ne]; omega
  clear g0 g1 g2 g3
  go_enter Try.func39, Try.ntmps39
  go_wp2_with fail
  refine (sbehind_any b c s n hn _ h ok hc).mono ?_
  rintro e w2 ⟨ha2, (⟨s2, ho, rfl, h2⟩ | ⟨ho, rfl⟩)⟩
  · have H2 : Hid _ := ho
    clear ho
    go_wp2_with fail
    go_ret
    exact Ans.yes ha2 (HO.out.trans H2.out) h2
  · have H2 : Hid _ := ho
    clear ho
    go_wp2_with fail
    go_ret
    exact Ans.no ha2 (HO.out.trans H2.out)

set_option maxHeartbeats 1000000 in
theorem number_d0 (b c : Nat) (s : ST) (n : Nat) (hn : n ≤ 1000) (w : World) (h : St b s w) (ok : OKS s n) (hc : c < 256) (g0 : 48 ≤ c ∧ c ≤ 57) (g1 : s.k = 0) :
    Calls Try.prog 40 #[.pointer (some ⟨b, 0, none⟩), .int .u8 (c : Int)] w fun e w' => Ans b (numberO s c) w w' e := by
  have HO : Hid (numberO s c = some { s with no := c == 48, k := s.k + 1 }) := by show _ = _; simp only [numberO]; rw [if_pos ⟨by simp [digB]; omega, Or.inl g1⟩]
  have l1 := ok.k; have l2 := ok.which; have l3 := ok.op; have l4 := ok.hd; have l5 := ok.wh
  have c0 := h.c 0; have z0 := h.z 0
  have c1 := h.c 1; have z1 := h.z 1
  have c2 := h.c 2; have z2 := h.z 2
  have c3 := h.c 3; have z3 := h.z 3
  have c4 := h.c 4; have z4 := h.z 4
  have c5 := h.c 5; have z5 := h.z 5
  simp [stC] at c0 c1 c2 c3 c4 c5
  have f0 : (48 : Int) ≤ (c : Int) := by omega
  have f1 : (c : Int) ≤ (57 : Int) := by omega
  have f2 : ((s.k : Int) == 0) = true := by rw [beq_iff_eq]; omega
  clear g0 g1
  go_enter Try.func40, Try.ntmps40
  go_wp2_with fail
  go_ret
  exact Ans.yes (((Aside.refl b w).setCell (Or.inl rfl) _).setCell (Or.inl rfl) _) HO.out (St.set (s := { s with no := c == 48 }) (h.set 4 _ (by simp [stC, cast48])) 1 _ (by simp [stC]))

set_option maxHeartbeats 1000000 in
theorem number_d1 (b c : Nat) (s : ST) (n : Nat) (hn : n ≤ 1000) (w : World) (h : St b s w) (ok : OKS s n) (hc : c < 256) (g0 : 48 ≤ c ∧ c ≤ 57) (g1 : s.k = 1) (g2 : s.no = false) :
    Calls Try.prog 40 #[.pointer (some ⟨b, 0, none⟩), .int .u8 (c : Int)] w fun e w' => Ans b (numberO s c) w w' e := by
  have HO : Hid (numberO s c = some { s with no := c == 48, k := s.k + 1 }) := by show _ = _; simp only [numberO]; rw [if_pos ⟨by simp [digB]; omega, Or.inr ⟨g1, g2⟩⟩]
  have l1 := ok.k; have l2 := ok.which; have l3 := ok.op; have l4 := ok.hd; have l5 := ok.wh
  have c0 := h.c 0; have z0 := h.z 0
  have c1 := h.c 1; have z1 := h.z 1
  have c2 := h.c 2; have z2 := h.z 2
  have c3 := h.c 3; have z3 := h.z 3
  have c4 := h.c 4; have z4 := h.z 4
  have c5 := h.c 5; have z5 := h.z 5
  simp [stC] at c0 c1 c2 c3 c4 c5
  have f0 : (48 : Int) ≤ (c : Int) := by omega
  have f1 : (c : Int) ≤ (57 : Int) := by omega
  have f2 : ((s.k : Int) == 0) = false := by rw [beq_eq_false_iff_ne]; omega
  have f3 : ((s.k : Int) == 1) = true := by rw [beq_iff_eq]; omega
  have f4 : s.no = false := g2
  clear g0 g1 g2
  go_enter Try.func40, Try.ntmps40
  go_wp2_with fail
  go_ret
  exact Ans.yes (((Aside.refl b w).setCell (Or.inl rfl) _).setCell (Or.inl rfl) _) HO.out (St.set (s := { s with no := c == 48 }) (h.set 4 _ (by simp [stC, cast48])) 1 _ (by simp [stC]))

set_option maxHeartbeats 1000000 in
theorem number_w0a (b c : Nat) (s : ST) (n : Nat) (hn : n ≤ 1000) (w : World) (h : St b s w) (ok : OKS s n) (hc : c < 256) (g0 : 48 ≤ c ∧ c ≤ 57 ∧ s.k ≠ 0 ∧ s.k ≠ 1) (g1 : s.k ≠ 0) (g2 : s.which = 0) :
    Calls Try.prog 40 #[.pointer (some ⟨b, 0, none⟩), .int .u8 (c : Int)] w fun e w' => Ans b (numberO s c) w w' e := by
  have HO : Hid (numberO s c = begunO s 2 c) := by show _ = _; simp only [numberO]; rw [if_neg (by intro q; omega), if_neg g1, if_pos g2]
  have l1 := ok.k; have l2 := ok.which; have l3 := ok.op; have l4 := ok.hd; have l5 := ok.wh
  have c0 := h.c 0; have z0 := h.z 0
  have c1 := h.c 1; have z1 := h.z 1
  have c2 := h.c 2; have z2 := h.z 2
  have c3 := h.c 3; have z3 := h.z 3
  have c4 := h.c 4; have z4 := h.z 4
  have c5 := h.c 5; have z5 := h.z 5
  simp [stC] at c0 c1 c2 c3 c4 c5
  have f0 : (48 : Int) ≤ (c : Int) := by omega
  have f1 : (c : Int) ≤ (57 : Int) := by omega
  have f2 : ((s.k : Int) == 0) = false := by rw [beq_eq_false_iff_ne]; omega
  have f3 : ((s.k : Int) == 1) = false := by rw [beq_eq_false_iff_ne]; omega
  have f4 : ((s.which : Int) == 0) = true := by rw [beq_iff_eq]; omega
  clear g0 g1 g2
  go_enter Try.func40, Try.ntmps40
  go_wp2_with fail
  refine (begun_any b c 2 2 rfl s _ h (by decide) hc).mono ?_
  rintro e w2 ⟨ha2, (⟨s2, ho, rfl, h2⟩ | ⟨ho, rfl⟩)⟩
  · have H2 : Hid _ := ho
    clear ho
    go_wp2_with fail
    go_ret
    exact Ans.yes ha2 (HO.out.trans H2.out) h2
  · have H2 : Hid _ := ho
    clear ho
    go_wp2_with fail
    go_ret
    exact Ans.no ha2 (HO.out.trans H2.out)

set_option maxHeartbeats 1000000 in
theorem number_w2a (b c : Nat) (s : ST) (n : Nat) (hn : n ≤ 1000) (w : World) (h : St b s w) (ok : OKS s n) (hc : c < 256) (g0 : 48 ≤ c ∧ c ≤ 57 ∧ s.k ≠ 0 ∧ s.k ≠ 1) (g1 : s.k ≠ 0) (g2 : s.which = 2) :
    Calls Try.prog 40 #[.pointer (some ⟨b, 0, none⟩), .int .u8 (c : Int)] w fun e w' => Ans b (numberO s c) w w' e := by
  have HO : Hid (numberO s c = begunO s 5 c) := by show _ = _; simp only [numberO]; rw [if_neg (by intro q; omega), if_neg g1, if_neg (by omega), if_pos g2]
  have l1 := ok.k; have l2 := ok.which; have l3 := ok.op; have l4 := ok.hd; have l5 := ok.wh
  have c0 := h.c 0; have z0 := h.z 0
  have c1 := h.c 1; have z1 := h.z 1
  have c2 := h.c 2; have z2 := h.z 2
  have c3 := h.c 3; have z3 := h.z 3
  have c4 := h.c 4; have z4 := h.z 4
  have c5 := h.c 5; have z5 := h.z 5
  simp [stC] at c0 c1 c2 c3 c4 c5
  have f0 : (48 : Int) ≤ (c : Int) := by omega
  have f1 : (c : Int) ≤ (57 : Int) := by omega
  have f2 : ((s.k : Int) == 0) = false := by rw [beq_eq_false_iff_ne]; omega
  have f3 : ((s.k : Int) == 1) = false := by rw [beq_eq_false_iff_ne]; omega
  have f4 : ((s.which : Int) == 0) = false := by rw [beq_eq_false_iff_ne]; omega
  have f5 : ((s.which : Int) == 2) = true := by rw [beq_iff_eq]; omega
  clear g0 g1 g2
  go_enter Try.func40, Try.ntmps40
  go_wp2_with fail
  refine (begun_any b c 5 5 rfl s _ h (by decide) hc).mono ?_
  rintro e w2 ⟨ha2, (⟨s2, ho, rfl, h2⟩ | ⟨ho, rfl⟩)⟩
  · have H2 : Hid _ := ho
    clear ho
    go_wp2_with fail
    go_ret
    exact Ans.yes ha2 (HO.out.trans H2.out) h2
  · have H2 : Hid _ := ho
    clear ho
    go_wp2_with fail
    go_ret
    exact Ans.no ha2 (HO.out.trans H2.out)

set_option maxHeartbeats 1000000 in
theorem number_w4a (b c : Nat) (s : ST) (n : Nat) (hn : n ≤ 1000) (w : World) (h : St b s w) (ok : OKS s n) (hc : c < 256) (g0 : 48 ≤ c ∧ c ≤ 57 ∧ s.k ≠ 0 ∧ s.k ≠ 1) (g1 : s.k ≠ 0) (g2 : s.which = 4) :
    Calls Try.prog 40 #[.pointer (some ⟨b, 0, none⟩), .int .u8 (c : Int)] w fun e w' => Ans b (numberO s c) w w' e := by
  have HO : Hid (numberO s c = begunO s 12 c) := by show _ = _; simp only [numberO]; rw [if_neg (by intro q; omega), if_neg g1, if_neg (by omega), if_neg (by omega), if_pos g2]
  have l1 := ok.k; have l2 := ok.which; have l3 := ok.op; have l4 := ok.hd; have l5 := ok.wh
  have c0 := h.c 0; have z0 := h.z 0
  have c1 := h.c 1; have z1 := h.z 1
  have c2 := h.c 2; have z2 := h.z 2
  have c3 := h.c 3; have z3 := h.z 3
  have c4 := h.c 4; have z4 := h.z 4
  have c5 := h.c 5; have z5 := h.z 5
  simp [stC] at c0 c1 c2 c3 c4 c5
  have f0 : (48 : Int) ≤ (c : Int) := by omega
  have f1 : (c : Int) ≤ (57 : Int) := by omega
  have f2 : ((s.k : Int) == 0) = false := by rw [beq_eq_false_iff_ne]; omega
  have f3 : ((s.k : Int) == 1) = false := by rw [beq_eq_false_iff_ne]; omega
  have f4 : ((s.which : Int) == 0) = false := by rw [beq_eq_false_iff_ne]; omega
  have f5 : ((s.which : Int) == 2) = false := by rw [beq_eq_false_iff_ne]; omega
  have f6 : ((s.which : Int) == 4) = true := by rw [beq_iff_eq]; omega
  clear g0 g1 g2
  go_enter Try.func40, Try.ntmps40
  go_wp2_with fail
  refine (begun_any b c 12 12 rfl s _ h (by decide) hc).mono ?_
  rintro e w2 ⟨ha2, (⟨s2, ho, rfl, h2⟩ | ⟨ho, rfl⟩)⟩
  · have H2 : Hid _ := ho
    clear ho
    go_wp2_with fail
    go_ret
    exact Ans.yes ha2 (HO.out.trans H2.out) h2
  · have H2 : Hid _ := ho
    clear ho
    go_wp2_with fail
    go_ret
    exact Ans.no ha2 (HO.out.trans H2.out)

set_option maxHeartbeats 1000000 in
theorem number_ta (b c : Nat) (s : ST) (n : Nat) (hn : n ≤ 1000) (w : World) (h : St b s w) (ok : OKS s n) (hc : c < 256) (g0 : 48 ≤ c ∧ c ≤ 57 ∧ s.k ≠ 0 ∧ s.k ≠ 1) (g1 : s.k ≠ 0) (g2 : s.which ≠ 0 ∧ s.which ≠ 2 ∧ s.which ≠ 4) (g3 : c ≠ 10) (g4 : s.which = 1) :
    Calls Try.prog 40 #[.pointer (some ⟨b, 0, none⟩), .int .u8 (c : Int)] w fun e w' => Ans b (numberO s c) w w' e := by
  have HO : Hid (numberO s c = begunO s 3 c) := by show _ = _; simp only [numberO]; rw [if_neg (by intro q; omega), if_neg g1, if_neg (by omega), if_neg (by omega), if_neg (by omega), if_neg g3, if_pos g4]
  have l1 := ok.k; have l2 := ok.which; have l3 := ok.op; have l4 := ok.hd; have l5 := ok.wh
  have c0 := h.c 0; have z0 := h.z 0
  have c1 := h.c 1; have z1 := h.z 1
  have c2 := h.c 2; have z2 := h.z 2
  have c3 := h.c 3; have z3 := h.z 3
  have c4 := h.c 4; have z4 := h.z 4
  have c5 := h.c 5; have z5 := h.z 5
  simp [stC] at c0 c1 c2 c3 c4 c5
  have f0 : (48 : Int) ≤ (c : Int) := by omega
  have f1 : (c : Int) ≤ (57 : Int) := by omega
  have f2 : ((s.k : Int) == 0) = false := by rw [beq_eq_false_iff_ne]; omega
  have f3 : ((s.k : Int) == 1) = false := by rw [beq_eq_false_iff_ne]; omega
  have f4 : ((s.which : Int) == 0) = false := by rw [beq_eq_false_iff_ne]; omega
  have f5 : ((s.which : Int) == 2) = false := by rw [beq_eq_false_iff_ne]; omega
  have f6 : ((s.which : Int) == 4) = false := by rw [beq_eq_false_iff_ne]; omega
  have f7 : ((c : Int) == 10) = false := by rw [beq_eq_false_iff_ne]; omega
  have f8 : ((s.which : Int) == 1) = true := by rw [beq_iff_eq]; omega
  clear g0 g1 g2 g3 g4
  go_enter Try.func40, Try.ntmps40
  go_wp2_with fail
  refine (begun_any b c 3 3 rfl s _ h (by decide) hc).mono ?_
  rintro e w2 ⟨ha2, (⟨s2, ho, rfl, h2⟩ | ⟨ho, rfl⟩)⟩
  · have H2 : Hid _ := ho
    clear ho
    go_wp2_with fail
    go_ret
    exact Ans.yes ha2 (HO.out.trans H2.out) h2
  · have H2 : Hid _ := ho
    clear ho
    go_wp2_with fail
    go_ret
    exact Ans.no ha2 (HO.out.trans H2.out)

set_option maxHeartbeats 1000000 in
theorem number_ua (b c : Nat) (s : ST) (n : Nat) (hn : n ≤ 1000) (w : World) (h : St b s w) (ok : OKS s n) (hc : c < 256) (g0 : 48 ≤ c ∧ c ≤ 57 ∧ s.k ≠ 0 ∧ s.k ≠ 1) (g1 : s.k ≠ 0) (g2 : s.which ≠ 0 ∧ s.which ≠ 2 ∧ s.which ≠ 4) (g3 : c ≠ 10) (g4 : s.which ≠ 1) :
    Calls Try.prog 40 #[.pointer (some ⟨b, 0, none⟩), .int .u8 (c : Int)] w fun e w' => Ans b (numberO s c) w w' e := by
  have HO : Hid (numberO s c = begunO s 6 c) := by show _ = _; simp only [numberO]; rw [if_neg (by intro q; omega), if_neg g1, if_neg (by omega), if_neg (by omega), if_neg (by omega), if_neg g3, if_neg g4]
  have l1 := ok.k; have l2 := ok.which; have l3 := ok.op; have l4 := ok.hd; have l5 := ok.wh
  have c0 := h.c 0; have z0 := h.z 0
  have c1 := h.c 1; have z1 := h.z 1
  have c2 := h.c 2; have z2 := h.z 2
  have c3 := h.c 3; have z3 := h.z 3
  have c4 := h.c 4; have z4 := h.z 4
  have c5 := h.c 5; have z5 := h.z 5
  simp [stC] at c0 c1 c2 c3 c4 c5
  have f0 : (48 : Int) ≤ (c : Int) := by omega
  have f1 : (c : Int) ≤ (57 : Int) := by omega
  have f2 : ((s.k : Int) == 0) = false := by rw [beq_eq_false_iff_ne]; omega
  have f3 : ((s.k : Int) == 1) = false := by rw [beq_eq_false_iff_ne]; omega
  have f4 : ((s.which : Int) == 0) = false := by rw [beq_eq_false_iff_ne]; omega
  have f5 : ((s.which : Int) == 2) = false := by rw [beq_eq_false_iff_ne]; omega
  have f6 : ((s.which : Int) == 4) = false := by rw [beq_eq_false_iff_ne]; omega
  have f7 : ((c : Int) == 10) = false := by rw [beq_eq_false_iff_ne]; omega
  have f8 : ((s.which : Int) == 1) = false := by rw [beq_eq_false_iff_ne]; omega
  clear g0 g1 g2 g3 g4
  go_enter Try.func40, Try.ntmps40
  go_wp2_with fail
  refine (begun_any b c 6 6 rfl s _ h (by decide) hc).mono ?_
  rintro e w2 ⟨ha2, (⟨s2, ho, rfl, h2⟩ | ⟨ho, rfl⟩)⟩
  · have H2 : Hid _ := ho
    clear ho
    go_wp2_with fail
    go_ret
    exact Ans.yes ha2 (HO.out.trans H2.out) h2
  · have H2 : Hid _ := ho
    clear ho
    go_wp2_with fail
    go_ret
    exact Ans.no ha2 (HO.out.trans H2.out)

set_option maxHeartbeats 1000000 in
theorem number_w0b (b c : Nat) (s : ST) (n : Nat) (hn : n ≤ 1000) (w : World) (h : St b s w) (ok : OKS s n) (hc : c < 256) (g0 : 48 ≤ c ∧ c ≤ 57 ∧ s.k = 1 ∧ s.no = true) (g1 : s.k ≠ 0) (g2 : s.which = 0) :
    Calls Try.prog 40 #[.pointer (some ⟨b, 0, none⟩), .int .u8 (c : Int)] w fun e w' => Ans b (numberO s c) w w' e := by
  have HO : Hid (numberO s c = begunO s 2 c) := by show _ = _; simp only [numberO]; rw [if_neg (by intro q; have q2 := g0.2.2.2; rw [q2] at q; simp at q; omega), if_neg g1, if_pos g2]
  have l1 := ok.k; have l2 := ok.which; have l3 := ok.op; have l4 := ok.hd; have l5 := ok.wh
  have c0 := h.c 0; have z0 := h.z 0
  have c1 := h.c 1; have z1 := h.z 1
  have c2 := h.c 2; have z2 := h.z 2
  have c3 := h.c 3; have z3 := h.z 3
  have c4 := h.c 4; have z4 := h.z 4
  have c5 := h.c 5; have z5 := h.z 5
  simp [stC] at c0 c1 c2 c3 c4 c5
  have f0 : (48 : Int) ≤ (c : Int) := by omega
  have f1 : (c : Int) ≤ (57 : Int) := by omega
  have f2 : ((s.k : Int) == 0) = false := by rw [beq_eq_false_iff_ne]; omega
  have f3 : ((s.k : Int) == 1) = true := by rw [beq_iff_eq]; omega
  have f4 : s.no = true := g0.2.2.2
  have f5 : ((s.which : Int) == 0) = true := by rw [beq_iff_eq]; omega
  clear g0 g1 g2
  go_enter Try.func40, Try.ntmps40
  go_wp2_with fail
  refine (begun_any b c 2 2 rfl s _ h (by decide) hc).mono ?_
  rintro e w2 ⟨ha2, (⟨s2, ho, rfl, h2⟩ | ⟨ho, rfl⟩)⟩
  · have H2 : Hid _ := ho
    clear ho
    go_wp2_with fail
    go_ret
    exact Ans.yes ha2 (HO.out.trans H2.out) h2
  · have H2 : Hid _ := ho
    clear ho
    go_wp2_with fail
    go_ret
    exact Ans.no ha2 (HO.out.trans H2.out)

set_option maxHeartbeats 1000000 in
theorem number_w2b (b c : Nat) (s : ST) (n : Nat) (hn : n ≤ 1000) (w : World) (h : St b s w) (ok : OKS s n) (hc : c < 256) (g0 : 48 ≤ c ∧ c ≤ 57 ∧ s.k = 1 ∧ s.no = true) (g1 : s.k ≠ 0) (g2 : s.which = 2) :
    Calls Try.prog 40 #[.pointer (some ⟨b, 0, none⟩), .int .u8 (c : Int)] w fun e w' => Ans b (numberO s c) w w' e := by
  have HO : Hid (numberO s c = begunO s 5 c) := by show _ = _; simp only [numberO]; rw [if_neg (by intro q; have q2 := g0.2.2.2; rw [q2] at q; simp at q; omega), if_neg g1, if_neg (by omega), if_pos g2]
  have l1 := ok.k; have l2 := ok.which; have l3 := ok.op; have l4 := ok.hd; have l5 := ok.wh
  have c0 := h.c 0; have z0 := h.z 0
  have c1 := h.c 1; have z1 := h.z 1
  have c2 := h.c 2; have z2 := h.z 2
  have c3 := h.c 3; have z3 := h.z 3
  have c4 := h.c 4; have z4 := h.z 4
  have c5 := h.c 5; have z5 := h.z 5
  simp [stC] at c0 c1 c2 c3 c4 c5
  have f0 : (48 : Int) ≤ (c : Int) := by omega
  have f1 : (c : Int) ≤ (57 : Int) := by omega
  have f2 : ((s.k : Int) == 0) = false := by rw [beq_eq_false_iff_ne]; omega
  have f3 : ((s.k : Int) == 1) = true := by rw [beq_iff_eq]; omega
  have f4 : s.no = true := g0.2.2.2
  have f5 : ((s.which : Int) == 0) = false := by rw [beq_eq_false_iff_ne]; omega
  have f6 : ((s.which : Int) == 2) = true := by rw [beq_iff_eq]; omega
  clear g0 g1 g2
  go_enter Try.func40, Try.ntmps40
  go_wp2_with fail
  refine (begun_any b c 5 5 rfl s _ h (by decide) hc).mono ?_
  rintro e w2 ⟨ha2, (⟨s2, ho, rfl, h2⟩ | ⟨ho, rfl⟩)⟩
  · have H2 : Hid _ := ho
    clear ho
    go_wp2_with fail
    go_ret
    exact Ans.yes ha2 (HO.out.trans H2.out) h2
  · have H2 : Hid _ := ho
    clear ho
    go_wp2_with fail
    go_ret
    exact Ans.no ha2 (HO.out.trans H2.out)

set_option maxHeartbeats 1000000 in
theorem number_w4b (b c : Nat) (s : ST) (n : Nat) (hn : n ≤ 1000) (w : World) (h : St b s w) (ok : OKS s n) (hc : c < 256) (g0 : 48 ≤ c ∧ c ≤ 57 ∧ s.k = 1 ∧ s.no = true) (g1 : s.k ≠ 0) (g2 : s.which = 4) :
    Calls Try.prog 40 #[.pointer (some ⟨b, 0, none⟩), .int .u8 (c : Int)] w fun e w' => Ans b (numberO s c) w w' e := by
  have HO : Hid (numberO s c = begunO s 12 c) := by show _ = _; simp only [numberO]; rw [if_neg (by intro q; have q2 := g0.2.2.2; rw [q2] at q; simp at q; omega), if_neg g1, if_neg (by omega), if_neg (by omega), if_pos g2]
  have l1 := ok.k; have l2 := ok.which; have l3 := ok.op; have l4 := ok.hd; have l5 := ok.wh
  have c0 := h.c 0; have z0 := h.z 0
  have c1 := h.c 1; have z1 := h.z 1
  have c2 := h.c 2; have z2 := h.z 2
  have c3 := h.c 3; have z3 := h.z 3
  have c4 := h.c 4; have z4 := h.z 4
  have c5 := h.c 5; have z5 := h.z 5
  simp [stC] at c0 c1 c2 c3 c4 c5
  have f0 : (48 : Int) ≤ (c : Int) := by omega
  have f1 : (c : Int) ≤ (57 : Int) := by omega
  have f2 : ((s.k : Int) == 0) = false := by rw [beq_eq_false_iff_ne]; omega
  have f3 : ((s.k : Int) == 1) = true := by rw [beq_iff_eq]; omega
  have f4 : s.no = true := g0.2.2.2
  have f5 : ((s.which : Int) == 0) = false := by rw [beq_eq_false_iff_ne]; omega
  have f6 : ((s.which : Int) == 2) = false := by rw [beq_eq_false_iff_ne]; omega
  have f7 : ((s.which : Int) == 4) = true := by rw [beq_iff_eq]; omega
  clear g0 g1 g2
  go_enter Try.func40, Try.ntmps40
  go_wp2_with fail
  refine (begun_any b c 12 12 rfl s _ h (by decide) hc).mono ?_
  rintro e w2 ⟨ha2, (⟨s2, ho, rfl, h2⟩ | ⟨ho, rfl⟩)⟩
  · have H2 : Hid _ := ho
    clear ho
    go_wp2_with fail
    go_ret
    exact Ans.yes ha2 (HO.out.trans H2.out) h2
  · have H2 : Hid _ := ho
    clear ho
    go_wp2_with fail
    go_ret
    exact Ans.no ha2 (HO.out.trans H2.out)

set_option maxHeartbeats 1000000 in
theorem number_tb (b c : Nat) (s : ST) (n : Nat) (hn : n ≤ 1000) (w : World) (h : St b s w) (ok : OKS s n) (hc : c < 256) (g0 : 48 ≤ c ∧ c ≤ 57 ∧ s.k = 1 ∧ s.no = true) (g1 : s.k ≠ 0) (g2 : s.which ≠ 0 ∧ s.which ≠ 2 ∧ s.which ≠ 4) (g3 : c ≠ 10) (g4 : s.which = 1) :
    Calls Try.prog 40 #[.pointer (some ⟨b, 0, none⟩), .int .u8 (c : Int)] w fun e w' => Ans b (numberO s c) w w' e := by
  have HO : Hid (numberO s c = begunO s 3 c) := by show _ = _; simp only [numberO]; rw [if_neg (by intro q; have q2 := g0.2.2.2; rw [q2] at q; simp at q; omega), if_neg g1, if_neg (by omega), if_neg (by omega), if_neg (by omega), if_neg g3, if_pos g4]
  have l1 := ok.k; have l2 := ok.which; have l3 := ok.op; have l4 := ok.hd; have l5 := ok.wh
  have c0 := h.c 0; have z0 := h.z 0
  have c1 := h.c 1; have z1 := h.z 1
  have c2 := h.c 2; have z2 := h.z 2
  have c3 := h.c 3; have z3 := h.z 3
  have c4 := h.c 4; have z4 := h.z 4
  have c5 := h.c 5; have z5 := h.z 5
  simp [stC] at c0 c1 c2 c3 c4 c5
  have f0 : (48 : Int) ≤ (c : Int) := by omega
  have f1 : (c : Int) ≤ (57 : Int) := by omega
  have f2 : ((s.k : Int) == 0) = false := by rw [beq_eq_false_iff_ne]; omega
  have f3 : ((s.k : Int) == 1) = true := by rw [beq_iff_eq]; omega
  have f4 : s.no = true := g0.2.2.2
  have f5 : ((s.which : Int) == 0) = false := by rw [beq_eq_false_iff_ne]; omega
  have f6 : ((s.which : Int) == 2) = false := by rw [beq_eq_false_iff_ne]; omega
  have f7 : ((s.which : Int) == 4) = false := by rw [beq_eq_false_iff_ne]; omega
  have f8 : ((c : Int) == 10) = false := by rw [beq_eq_false_iff_ne]; omega
  have f9 : ((s.which : Int) == 1) = true := by rw [beq_iff_eq]; omega
  clear g0 g1 g2 g3 g4
  go_enter Try.func40, Try.ntmps40
  go_wp2_with fail
  refine (begun_any b c 3 3 rfl s _ h (by decide) hc).mono ?_
  rintro e w2 ⟨ha2, (⟨s2, ho, rfl, h2⟩ | ⟨ho, rfl⟩)⟩
  · have H2 : Hid _ := ho
    clear ho
    go_wp2_with fail
    go_ret
    exact Ans.yes ha2 (HO.out.trans H2.out) h2
  · have H2 : Hid _ := ho
    clear ho
    go_wp2_with fail
    go_ret
    exact Ans.no ha2 (HO.out.trans H2.out)

set_option maxHeartbeats 1000000 in
theorem number_ub (b c : Nat) (s : ST) (n : Nat) (hn : n ≤ 1000) (w : World) (h : St b s w) (ok : OKS s n) (hc : c < 256) (g0 : 48 ≤ c ∧ c ≤ 57 ∧ s.k = 1 ∧ s.no = true) (g1 : s.k ≠ 0) (g2 : s.which ≠ 0 ∧ s.which ≠ 2 ∧ s.which ≠ 4) (g3 : c ≠ 10) (g4 : s.which ≠ 1) :
    Calls Try.prog 40 #[.pointer (some ⟨b, 0, none⟩), .int .u8 (c : Int)] w fun e w' => Ans b (numberO s c) w w' e := by
  have HO : Hid (numberO s c = begunO s 6 c) := by show _ = _; simp only [numberO]; rw [if_neg (by intro q; have q2 := g0.2.2.2; rw [q2] at q; simp at q; omega), if_neg g1, if_neg (by omega), if_neg (by omega), if_neg (by omega), if_neg g3, if_neg g4]
  have l1 := ok.k; have l2 := ok.which; have l3 := ok.op; have l4 := ok.hd; have l5 := ok.wh
  have c0 := h.c 0; have z0 := h.z 0
  have c1 := h.c 1; have z1 := h.z 1
  have c2 := h.c 2; have z2 := h.z 2
  have c3 := h.c 3; have z3 := h.z 3
  have c4 := h.c 4; have z4 := h.z 4
  have c5 := h.c 5; have z5 := h.z 5
  simp [stC] at c0 c1 c2 c3 c4 c5
  have f0 : (48 : Int) ≤ (c : Int) := by omega
  have f1 : (c : Int) ≤ (57 : Int) := by omega
  have f2 : ((s.k : Int) == 0) = false := by rw [beq_eq_false_iff_ne]; omega
  have f3 : ((s.k : Int) == 1) = true := by rw [beq_iff_eq]; omega
  have f4 : s.no = true := g0.2.2.2
  have f5 : ((s.which : Int) == 0) = false := by rw [beq_eq_false_iff_ne]; omega
  have f6 : ((s.which : Int) == 2) = false := by rw [beq_eq_false_iff_ne]; omega
  have f7 : ((s.which : Int) == 4) = false := by rw [beq_eq_false_iff_ne]; omega
  have f8 : ((c : Int) == 10) = false := by rw [beq_eq_false_iff_ne]; omega
  have f9 : ((s.which : Int) == 1) = false := by rw [beq_eq_false_iff_ne]; omega
  clear g0 g1 g2 g3 g4
  go_enter Try.func40, Try.ntmps40
  go_wp2_with fail
  refine (begun_any b c 6 6 rfl s _ h (by decide) hc).mono ?_
  rintro e w2 ⟨ha2, (⟨s2, ho, rfl, h2⟩ | ⟨ho, rfl⟩)⟩
  · have H2 : Hid _ := ho
    clear ho
    go_wp2_with fail
    go_ret
    exact Ans.yes ha2 (HO.out.trans H2.out) h2
  · have H2 : Hid _ := ho
    clear ho
    go_wp2_with fail
    go_ret
    exact Ans.no ha2 (HO.out.trans H2.out)

set_option maxHeartbeats 1000000 in
theorem number_0c (b c : Nat) (s : ST) (n : Nat) (hn : n ≤ 1000) (w : World) (h : St b s w) (ok : OKS s n) (hc : c < 256) (g0 : c < 48) (g1 : s.k = 0) :
    Calls Try.prog 40 #[.pointer (some ⟨b, 0, none⟩), .int .u8 (c : Int)] w fun e w' => Ans b (numberO s c) w w' e := by
  have HO : Hid (numberO s c = none) := by show _ = _; simp only [numberO]; rw [if_neg (by simp [digB]; omega), if_pos g1]
  have l1 := ok.k; have l2 := ok.which; have l3 := ok.op; have l4 := ok.hd; have l5 := ok.wh
  have c0 := h.c 0; have z0 := h.z 0
  have c1 := h.c 1; have z1 := h.z 1
  have c2 := h.c 2; have z2 := h.z 2
  have c3 := h.c 3; have z3 := h.z 3
  have c4 := h.c 4; have z4 := h.z 4
  have c5 := h.c 5; have z5 := h.z 5
  simp [stC] at c0 c1 c2 c3 c4 c5
  have f0 : decide ((48 : Int) ≤ (c : Int)) = false := by simp; omega
  have f1 : ((s.k : Int) == 0) = true := by rw [beq_iff_eq]; omega
  clear g0 g1
  go_enter Try.func40, Try.ntmps40
  go_wp2_with fail
  go_ret
  exact Ans.no (Aside.refl b w) HO.out

set_option maxHeartbeats 1000000 in
theorem number_w0c (b c : Nat) (s : ST) (n : Nat) (hn : n ≤ 1000) (w : World) (h : St b s w) (ok : OKS s n) (hc : c < 256) (g0 : c < 48) (g1 : s.k ≠ 0) (g2 : s.which = 0) :
    Calls Try.prog 40 #[.pointer (some ⟨b, 0, none⟩), .int .u8 (c : Int)] w fun e w' => Ans b (numberO s c) w w' e := by
  have HO : Hid (numberO s c = begunO s 2 c) := by show _ = _; simp only [numberO]; rw [if_neg (by simp [digB]; omega), if_neg g1, if_pos g2]
  have l1 := ok.k; have l2 := ok.which; have l3 := ok.op; have l4 := ok.hd; have l5 := ok.wh
  have c0 := h.c 0; have z0 := h.z 0
  have c1 := h.c 1; have z1 := h.z 1
  have c2 := h.c 2; have z2 := h.z 2
  have c3 := h.c 3; have z3 := h.z 3
  have c4 := h.c 4; have z4 := h.z 4
  have c5 := h.c 5; have z5 := h.z 5
  simp [stC] at c0 c1 c2 c3 c4 c5
  have f0 : decide ((48 : Int) ≤ (c : Int)) = false := by simp; omega
  have f1 : ((s.k : Int) == 0) = false := by rw [beq_eq_false_iff_ne]; omega
  have f2 : ((s.which : Int) == 0) = true := by rw [beq_iff_eq]; omega
  clear g0 g1 g2
  go_enter Try.func40, Try.ntmps40
  go_wp2_with fail
  refine (begun_any b c 2 2 rfl s _ h (by decide) hc).mono ?_
  rintro e w2 ⟨ha2, (⟨s2, ho, rfl, h2⟩ | ⟨ho, rfl⟩)⟩
  · have H2 : Hid _ := ho
    clear ho
    go_wp2_with fail
    go_ret
    exact Ans.yes ha2 (HO.out.trans H2.out) h2
  · have H2 : Hid _ := ho
    clear ho
    go_wp2_with fail
    go_ret
    exact Ans.no ha2 (HO.out.trans H2.out)

set_option maxHeartbeats 1000000 in
theorem number_w2c (b c : Nat) (s : ST) (n : Nat) (hn : n ≤ 1000) (w : World) (h : St b s w) (ok : OKS s n) (hc : c < 256) (g0 : c < 48) (g1 : s.k ≠ 0) (g2 : s.which = 2) :
    Calls Try.prog 40 #[.pointer (some ⟨b, 0, none⟩), .int .u8 (c : Int)] w fun e w' => Ans b (numberO s c) w w' e := by
  have HO : Hid (numberO s c = begunO s 5 c) := by show _ = _; simp only [numberO]; rw [if_neg (by simp [digB]; omega), if_neg g1, if_neg (by omega), if_pos g2]
  have l1 := ok.k; have l2 := ok.which; have l3 := ok.op; have l4 := ok.hd; have l5 := ok.wh
  have c0 := h.c 0; have z0 := h.z 0
  have c1 := h.c 1; have z1 := h.z 1
  have c2 := h.c 2; have z2 := h.z 2
  have c3 := h.c 3; have z3 := h.z 3
  have c4 := h.c 4; have z4 := h.z 4
  have c5 := h.c 5; have z5 := h.z 5
  simp [stC] at c0 c1 c2 c3 c4 c5
  have f0 : decide ((48 : Int) ≤ (c : Int)) = false := by simp; omega
  have f1 : ((s.k : Int) == 0) = false := by rw [beq_eq_false_iff_ne]; omega
  have f2 : ((s.which : Int) == 0) = false := by rw [beq_eq_false_iff_ne]; omega
  have f3 : ((s.which : Int) == 2) = true := by rw [beq_iff_eq]; omega
  clear g0 g1 g2
  go_enter Try.func40, Try.ntmps40
  go_wp2_with fail
  refine (begun_any b c 5 5 rfl s _ h (by decide) hc).mono ?_
  rintro e w2 ⟨ha2, (⟨s2, ho, rfl, h2⟩ | ⟨ho, rfl⟩)⟩
  · have H2 : Hid _ := ho
    clear ho
    go_wp2_with fail
    go_ret
    exact Ans.yes ha2 (HO.out.trans H2.out) h2
  · have H2 : Hid _ := ho
    clear ho
    go_wp2_with fail
    go_ret
    exact Ans.no ha2 (HO.out.trans H2.out)

set_option maxHeartbeats 1000000 in
theorem number_w4c (b c : Nat) (s : ST) (n : Nat) (hn : n ≤ 1000) (w : World) (h : St b s w) (ok : OKS s n) (hc : c < 256) (g0 : c < 48) (g1 : s.k ≠ 0) (g2 : s.which = 4) :
    Calls Try.prog 40 #[.pointer (some ⟨b, 0, none⟩), .int .u8 (c : Int)] w fun e w' => Ans b (numberO s c) w w' e := by
  have HO : Hid (numberO s c = begunO s 12 c) := by show _ = _; simp only [numberO]; rw [if_neg (by simp [digB]; omega), if_neg g1, if_neg (by omega), if_neg (by omega), if_pos g2]
  have l1 := ok.k; have l2 := ok.which; have l3 := ok.op; have l4 := ok.hd; have l5 := ok.wh
  have c0 := h.c 0; have z0 := h.z 0
  have c1 := h.c 1; have z1 := h.z 1
  have c2 := h.c 2; have z2 := h.z 2
  have c3 := h.c 3; have z3 := h.z 3
  have c4 := h.c 4; have z4 := h.z 4
  have c5 := h.c 5; have z5 := h.z 5
  simp [stC] at c0 c1 c2 c3 c4 c5
  have f0 : decide ((48 : Int) ≤ (c : Int)) = false := by simp; omega
  have f1 : ((s.k : Int) == 0) = false := by rw [beq_eq_false_iff_ne]; omega
  have f2 : ((s.which : Int) == 0) = false := by rw [beq_eq_false_iff_ne]; omega
  have f3 : ((s.which : Int) == 2) = false := by rw [beq_eq_false_iff_ne]; omega
  have f4 : ((s.which : Int) == 4) = true := by rw [beq_iff_eq]; omega
  clear g0 g1 g2
  go_enter Try.func40, Try.ntmps40
  go_wp2_with fail
  refine (begun_any b c 12 12 rfl s _ h (by decide) hc).mono ?_
  rintro e w2 ⟨ha2, (⟨s2, ho, rfl, h2⟩ | ⟨ho, rfl⟩)⟩
  · have H2 : Hid _ := ho
    clear ho
    go_wp2_with fail
    go_ret
    exact Ans.yes ha2 (HO.out.trans H2.out) h2
  · have H2 : Hid _ := ho
    clear ho
    go_wp2_with fail
    go_ret
    exact Ans.no ha2 (HO.out.trans H2.out)

set_option maxHeartbeats 1000000 in
theorem number_nlc (b c : Nat) (s : ST) (n : Nat) (hn : n ≤ 1000) (w : World) (h : St b s w) (ok : OKS s n) (hc : c < 256) (g0 : c < 48) (g1 : s.k ≠ 0) (g2 : s.which ≠ 0 ∧ s.which ≠ 2 ∧ s.which ≠ 4) (g3 : c = 10) :
    Calls Try.prog 40 #[.pointer (some ⟨b, 0, none⟩), .int .u8 (c : Int)] w fun e w' => Ans b (numberO s c) w w' e := by
  have HO : Hid (numberO s c = some (goS s 0 0)) := by show _ = _; simp only [numberO]; rw [if_neg (by simp [digB]; omega), if_neg g1, if_neg (by omega), if_neg (by omega), if_neg (by omega), if_pos g3]
  have l1 := ok.k; have l2 := ok.which; have l3 := ok.op; have l4 := ok.hd; have l5 := ok.wh
  have c0 := h.c 0; have z0 := h.z 0
  have c1 := h.c 1; have z1 := h.z 1
  have c2 := h.c 2; have z2 := h.z 2
  have c3 := h.c 3; have z3 := h.z 3
  have c4 := h.c 4; have z4 := h.z 4
  have c5 := h.c 5; have z5 := h.z 5
  simp [stC] at c0 c1 c2 c3 c4 c5
  have f0 : decide ((48 : Int) ≤ (c : Int)) = false := by simp; omega
  have f1 : ((s.k : Int) == 0) = false := by rw [beq_eq_false_iff_ne]; omega
  have f2 : ((s.which : Int) == 0) = false := by rw [beq_eq_false_iff_ne]; omega
  have f3 : ((s.which : Int) == 2) = false := by rw [beq_eq_false_iff_ne]; omega
  have f4 : ((s.which : Int) == 4) = false := by rw [beq_eq_false_iff_ne]; omega
  have f5 : ((c : Int) == 10) = true := by rw [beq_iff_eq]; omega
  clear g0 g1 g2 g3
  go_enter Try.func40, Try.ntmps40
  go_wp2_with fail
  refine (goes_any b s 0 0 0 0 rfl rfl _ h).mono ?_
  rintro e w2 ⟨rfl, h2, ha2⟩
  go_wp2_with fail
  go_ret
  exact Ans.yes ha2 HO.out h2

set_option maxHeartbeats 1000000 in
theorem number_tc (b c : Nat) (s : ST) (n : Nat) (hn : n ≤ 1000) (w : World) (h : St b s w) (ok : OKS s n) (hc : c < 256) (g0 : c < 48) (g1 : s.k ≠ 0) (g2 : s.which ≠ 0 ∧ s.which ≠ 2 ∧ s.which ≠ 4) (g3 : c ≠ 10) (g4 : s.which = 1) :
    Calls Try.prog 40 #[.pointer (some ⟨b, 0, none⟩), .int .u8 (c : Int)] w fun e w' => Ans b (numberO s c) w w' e := by
  have HO : Hid (numberO s c = begunO s 3 c) := by show _ = _; simp only [numberO]; rw [if_neg (by simp [digB]; omega), if_neg g1, if_neg (by omega), if_neg (by omega), if_neg (by omega), if_neg g3, if_pos g4]
  have l1 := ok.k; have l2 := ok.which; have l3 := ok.op; have l4 := ok.hd; have l5 := ok.wh
  have c0 := h.c 0; have z0 := h.z 0
  have c1 := h.c 1; have z1 := h.z 1
  have c2 := h.c 2; have z2 := h.z 2
  have c3 := h.c 3; have z3 := h.z 3
  have c4 := h.c 4; have z4 := h.z 4
  have c5 := h.c 5; have z5 := h.z 5
  simp [stC] at c0 c1 c2 c3 c4 c5
  have f0 : decide ((48 : Int) ≤ (c : Int)) = false := by simp; omega
  have f1 : ((s.k : Int) == 0) = false := by rw [beq_eq_false_iff_ne]; omega
  have f2 : ((s.which : Int) == 0) = false := by rw [beq_eq_false_iff_ne]; omega
  have f3 : ((s.which : Int) == 2) = false := by rw [beq_eq_false_iff_ne]; omega
  have f4 : ((s.which : Int) == 4) = false := by rw [beq_eq_false_iff_ne]; omega
  have f5 : ((c : Int) == 10) = false := by rw [beq_eq_false_iff_ne]; omega
  have f6 : ((s.which : Int) == 1) = true := by rw [beq_iff_eq]; omega
  clear g0 g1 g2 g3 g4
  go_enter Try.func40, Try.ntmps40
  go_wp2_with fail
  refine (begun_any b c 3 3 rfl s _ h (by decide) hc).mono ?_
  rintro e w2 ⟨ha2, (⟨s2, ho, rfl, h2⟩ | ⟨ho, rfl⟩)⟩
  · have H2 : Hid _ := ho
    clear ho
    go_wp2_with fail
    go_ret
    exact Ans.yes ha2 (HO.out.trans H2.out) h2
  · have H2 : Hid _ := ho
    clear ho
    go_wp2_with fail
    go_ret
    exact Ans.no ha2 (HO.out.trans H2.out)

set_option maxHeartbeats 1000000 in
theorem number_uc (b c : Nat) (s : ST) (n : Nat) (hn : n ≤ 1000) (w : World) (h : St b s w) (ok : OKS s n) (hc : c < 256) (g0 : c < 48) (g1 : s.k ≠ 0) (g2 : s.which ≠ 0 ∧ s.which ≠ 2 ∧ s.which ≠ 4) (g3 : c ≠ 10) (g4 : s.which ≠ 1) :
    Calls Try.prog 40 #[.pointer (some ⟨b, 0, none⟩), .int .u8 (c : Int)] w fun e w' => Ans b (numberO s c) w w' e := by
  have HO : Hid (numberO s c = begunO s 6 c) := by show _ = _; simp only [numberO]; rw [if_neg (by simp [digB]; omega), if_neg g1, if_neg (by omega), if_neg (by omega), if_neg (by omega), if_neg g3, if_neg g4]
  have l1 := ok.k; have l2 := ok.which; have l3 := ok.op; have l4 := ok.hd; have l5 := ok.wh
  have c0 := h.c 0; have z0 := h.z 0
  have c1 := h.c 1; have z1 := h.z 1
  have c2 := h.c 2; have z2 := h.z 2
  have c3 := h.c 3; have z3 := h.z 3
  have c4 := h.c 4; have z4 := h.z 4
  have c5 := h.c 5; have z5 := h.z 5
  simp [stC] at c0 c1 c2 c3 c4 c5
  have f0 : decide ((48 : Int) ≤ (c : Int)) = false := by simp; omega
  have f1 : ((s.k : Int) == 0) = false := by rw [beq_eq_false_iff_ne]; omega
  have f2 : ((s.which : Int) == 0) = false := by rw [beq_eq_false_iff_ne]; omega
  have f3 : ((s.which : Int) == 2) = false := by rw [beq_eq_false_iff_ne]; omega
  have f4 : ((s.which : Int) == 4) = false := by rw [beq_eq_false_iff_ne]; omega
  have f5 : ((c : Int) == 10) = false := by rw [beq_eq_false_iff_ne]; omega
  have f6 : ((s.which : Int) == 1) = false := by rw [beq_eq_false_iff_ne]; omega
  clear g0 g1 g2 g3 g4
  go_enter Try.func40, Try.ntmps40
  go_wp2_with fail
  refine (begun_any b c 6 6 rfl s _ h (by decide) hc).mono ?_
  rintro e w2 ⟨ha2, (⟨s2, ho, rfl, h2⟩ | ⟨ho, rfl⟩)⟩
  · have H2 : Hid _ := ho
    clear ho
    go_wp2_with fail
    go_ret
    exact Ans.yes ha2 (HO.out.trans H2.out) h2
  · have H2 : Hid _ := ho
    clear ho
    go_wp2_with fail
    go_ret
    exact Ans.no ha2 (HO.out.trans H2.out)

set_option maxHeartbeats 1000000 in
theorem number_0d (b c : Nat) (s : ST) (n : Nat) (hn : n ≤ 1000) (w : World) (h : St b s w) (ok : OKS s n) (hc : c < 256) (g0 : 57 < c) (g1 : s.k = 0) :
    Calls Try.prog 40 #[.pointer (some ⟨b, 0, none⟩), .int .u8 (c : Int)] w fun e w' => Ans b (numberO s c) w w' e := by
  have HO : Hid (numberO s c = none) := by show _ = _; simp only [numberO]; rw [if_neg (by simp [digB]; omega), if_pos g1]
  have l1 := ok.k; have l2 := ok.which; have l3 := ok.op; have l4 := ok.hd; have l5 := ok.wh
  have c0 := h.c 0; have z0 := h.z 0
  have c1 := h.c 1; have z1 := h.z 1
  have c2 := h.c 2; have z2 := h.z 2
  have c3 := h.c 3; have z3 := h.z 3
  have c4 := h.c 4; have z4 := h.z 4
  have c5 := h.c 5; have z5 := h.z 5
  simp [stC] at c0 c1 c2 c3 c4 c5
  have f0 : (48 : Int) ≤ (c : Int) := by omega
  have f1 : decide ((c : Int) ≤ (57 : Int)) = false := by simp; omega
  have f2 : ((s.k : Int) == 0) = true := by rw [beq_iff_eq]; omega
  clear g0 g1
  go_enter Try.func40, Try.ntmps40
  go_wp2_with fail
  go_ret
  exact Ans.no (Aside.refl b w) HO.out

set_option maxHeartbeats 1000000 in
theorem number_w0d (b c : Nat) (s : ST) (n : Nat) (hn : n ≤ 1000) (w : World) (h : St b s w) (ok : OKS s n) (hc : c < 256) (g0 : 57 < c) (g1 : s.k ≠ 0) (g2 : s.which = 0) :
    Calls Try.prog 40 #[.pointer (some ⟨b, 0, none⟩), .int .u8 (c : Int)] w fun e w' => Ans b (numberO s c) w w' e := by
  have HO : Hid (numberO s c = begunO s 2 c) := by show _ = _; simp only [numberO]; rw [if_neg (by simp [digB]; omega), if_neg g1, if_pos g2]
  have l1 := ok.k; have l2 := ok.which; have l3 := ok.op; have l4 := ok.hd; have l5 := ok.wh
  have c0 := h.c 0; have z0 := h.z 0
  have c1 := h.c 1; have z1 := h.z 1
  have c2 := h.c 2; have z2 := h.z 2
  have c3 := h.c 3; have z3 := h.z 3
  have c4 := h.c 4; have z4 := h.z 4
  have c5 := h.c 5; have z5 := h.z 5
  simp [stC] at c0 c1 c2 c3 c4 c5
  have f0 : (48 : Int) ≤ (c : Int) := by omega
  have f1 : decide ((c : Int) ≤ (57 : Int)) = false := by simp; omega
  have f2 : ((s.k : Int) == 0) = false := by rw [beq_eq_false_iff_ne]; omega
  have f3 : ((s.which : Int) == 0) = true := by rw [beq_iff_eq]; omega
  clear g0 g1 g2
  go_enter Try.func40, Try.ntmps40
  go_wp2_with fail
  refine (begun_any b c 2 2 rfl s _ h (by decide) hc).mono ?_
  rintro e w2 ⟨ha2, (⟨s2, ho, rfl, h2⟩ | ⟨ho, rfl⟩)⟩
  · have H2 : Hid _ := ho
    clear ho
    go_wp2_with fail
    go_ret
    exact Ans.yes ha2 (HO.out.trans H2.out) h2
  · have H2 : Hid _ := ho
    clear ho
    go_wp2_with fail
    go_ret
    exact Ans.no ha2 (HO.out.trans H2.out)

set_option maxHeartbeats 1000000 in
theorem number_w2d (b c : Nat) (s : ST) (n : Nat) (hn : n ≤ 1000) (w : World) (h : St b s w) (ok : OKS s n) (hc : c < 256) (g0 : 57 < c) (g1 : s.k ≠ 0) (g2 : s.which = 2) :
    Calls Try.prog 40 #[.pointer (some ⟨b, 0, none⟩), .int .u8 (c : Int)] w fun e w' => Ans b (numberO s c) w w' e := by
  have HO : Hid (numberO s c = begunO s 5 c) := by show _ = _; simp only [numberO]; rw [if_neg (by simp [digB]; omega), if_neg g1, if_neg (by omega), if_pos g2]
  have l1 := ok.k; have l2 := ok.which; have l3 := ok.op; have l4 := ok.hd; have l5 := ok.wh
  have c0 := h.c 0; have z0 := h.z 0
  have c1 := h.c 1; have z1 := h.z 1
  have c2 := h.c 2; have z2 := h.z 2
  have c3 := h.c 3; have z3 := h.z 3
  have c4 := h.c 4; have z4 := h.z 4
  have c5 := h.c 5; have z5 := h.z 5
  simp [stC] at c0 c1 c2 c3 c4 c5
  have f0 : (48 : Int) ≤ (c : Int) := by omega
  have f1 : decide ((c : Int) ≤ (57 : Int)) = false := by simp; omega
  have f2 : ((s.k : Int) == 0) = false := by rw [beq_eq_false_iff_ne]; omega
  have f3 : ((s.which : Int) == 0) = false := by rw [beq_eq_false_iff_ne]; omega
  have f4 : ((s.which : Int) == 2) = true := by rw [beq_iff_eq]; omega
  clear g0 g1 g2
  go_enter Try.func40, Try.ntmps40
  go_wp2_with fail
  refine (begun_any b c 5 5 rfl s _ h (by decide) hc).mono ?_
  rintro e w2 ⟨ha2, (⟨s2, ho, rfl, h2⟩ | ⟨ho, rfl⟩)⟩
  · have H2 : Hid _ := ho
    clear ho
    go_wp2_with fail
    go_ret
    exact Ans.yes ha2 (HO.out.trans H2.out) h2
  · have H2 : Hid _ := ho
    clear ho
    go_wp2_with fail
    go_ret
    exact Ans.no ha2 (HO.out.trans H2.out)

set_option maxHeartbeats 1000000 in
theorem number_w4d (b c : Nat) (s : ST) (n : Nat) (hn : n ≤ 1000) (w : World) (h : St b s w) (ok : OKS s n) (hc : c < 256) (g0 : 57 < c) (g1 : s.k ≠ 0) (g2 : s.which = 4) :
    Calls Try.prog 40 #[.pointer (some ⟨b, 0, none⟩), .int .u8 (c : Int)] w fun e w' => Ans b (numberO s c) w w' e := by
  have HO : Hid (numberO s c = begunO s 12 c) := by show _ = _; simp only [numberO]; rw [if_neg (by simp [digB]; omega), if_neg g1, if_neg (by omega), if_neg (by omega), if_pos g2]
  have l1 := ok.k; have l2 := ok.which; have l3 := ok.op; have l4 := ok.hd; have l5 := ok.wh
  have c0 := h.c 0; have z0 := h.z 0
  have c1 := h.c 1; have z1 := h.z 1
  have c2 := h.c 2; have z2 := h.z 2
  have c3 := h.c 3; have z3 := h.z 3
  have c4 := h.c 4; have z4 := h.z 4
  have c5 := h.c 5; have z5 := h.z 5
  simp [stC] at c0 c1 c2 c3 c4 c5
  have f0 : (48 : Int) ≤ (c : Int) := by omega
  have f1 : decide ((c : Int) ≤ (57 : Int)) = false := by simp; omega
  have f2 : ((s.k : Int) == 0) = false := by rw [beq_eq_false_iff_ne]; omega
  have f3 : ((s.which : Int) == 0) = false := by rw [beq_eq_false_iff_ne]; omega
  have f4 : ((s.which : Int) == 2) = false := by rw [beq_eq_false_iff_ne]; omega
  have f5 : ((s.which : Int) == 4) = true := by rw [beq_iff_eq]; omega
  clear g0 g1 g2
  go_enter Try.func40, Try.ntmps40
  go_wp2_with fail
  refine (begun_any b c 12 12 rfl s _ h (by decide) hc).mono ?_
  rintro e w2 ⟨ha2, (⟨s2, ho, rfl, h2⟩ | ⟨ho, rfl⟩)⟩
  · have H2 : Hid _ := ho
    clear ho
    go_wp2_with fail
    go_ret
    exact Ans.yes ha2 (HO.out.trans H2.out) h2
  · have H2 : Hid _ := ho
    clear ho
    go_wp2_with fail
    go_ret
    exact Ans.no ha2 (HO.out.trans H2.out)

set_option maxHeartbeats 1000000 in
theorem number_td (b c : Nat) (s : ST) (n : Nat) (hn : n ≤ 1000) (w : World) (h : St b s w) (ok : OKS s n) (hc : c < 256) (g0 : 57 < c) (g1 : s.k ≠ 0) (g2 : s.which ≠ 0 ∧ s.which ≠ 2 ∧ s.which ≠ 4) (g3 : c ≠ 10) (g4 : s.which = 1) :
    Calls Try.prog 40 #[.pointer (some ⟨b, 0, none⟩), .int .u8 (c : Int)] w fun e w' => Ans b (numberO s c) w w' e := by
  have HO : Hid (numberO s c = begunO s 3 c) := by show _ = _; simp only [numberO]; rw [if_neg (by simp [digB]; omega), if_neg g1, if_neg (by omega), if_neg (by omega), if_neg (by omega), if_neg g3, if_pos g4]
  have l1 := ok.k; have l2 := ok.which; have l3 := ok.op; have l4 := ok.hd; have l5 := ok.wh
  have c0 := h.c 0; have z0 := h.z 0
  have c1 := h.c 1; have z1 := h.z 1
  have c2 := h.c 2; have z2 := h.z 2
  have c3 := h.c 3; have z3 := h.z 3
  have c4 := h.c 4; have z4 := h.z 4
  have c5 := h.c 5; have z5 := h.z 5
  simp [stC] at c0 c1 c2 c3 c4 c5
  have f0 : (48 : Int) ≤ (c : Int) := by omega
  have f1 : decide ((c : Int) ≤ (57 : Int)) = false := by simp; omega
  have f2 : ((s.k : Int) == 0) = false := by rw [beq_eq_false_iff_ne]; omega
  have f3 : ((s.which : Int) == 0) = false := by rw [beq_eq_false_iff_ne]; omega
  have f4 : ((s.which : Int) == 2) = false := by rw [beq_eq_false_iff_ne]; omega
  have f5 : ((s.which : Int) == 4) = false := by rw [beq_eq_false_iff_ne]; omega
  have f6 : ((c : Int) == 10) = false := by rw [beq_eq_false_iff_ne]; omega
  have f7 : ((s.which : Int) == 1) = true := by rw [beq_iff_eq]; omega
  clear g0 g1 g2 g3 g4
  go_enter Try.func40, Try.ntmps40
  go_wp2_with fail
  refine (begun_any b c 3 3 rfl s _ h (by decide) hc).mono ?_
  rintro e w2 ⟨ha2, (⟨s2, ho, rfl, h2⟩ | ⟨ho, rfl⟩)⟩
  · have H2 : Hid _ := ho
    clear ho
    go_wp2_with fail
    go_ret
    exact Ans.yes ha2 (HO.out.trans H2.out) h2
  · have H2 : Hid _ := ho
    clear ho
    go_wp2_with fail
    go_ret
    exact Ans.no ha2 (HO.out.trans H2.out)

set_option maxHeartbeats 1000000 in
theorem number_ud (b c : Nat) (s : ST) (n : Nat) (hn : n ≤ 1000) (w : World) (h : St b s w) (ok : OKS s n) (hc : c < 256) (g0 : 57 < c) (g1 : s.k ≠ 0) (g2 : s.which ≠ 0 ∧ s.which ≠ 2 ∧ s.which ≠ 4) (g3 : c ≠ 10) (g4 : s.which ≠ 1) :
    Calls Try.prog 40 #[.pointer (some ⟨b, 0, none⟩), .int .u8 (c : Int)] w fun e w' => Ans b (numberO s c) w w' e := by
  have HO : Hid (numberO s c = begunO s 6 c) := by show _ = _; simp only [numberO]; rw [if_neg (by simp [digB]; omega), if_neg g1, if_neg (by omega), if_neg (by omega), if_neg (by omega), if_neg g3, if_neg g4]
  have l1 := ok.k; have l2 := ok.which; have l3 := ok.op; have l4 := ok.hd; have l5 := ok.wh
  have c0 := h.c 0; have z0 := h.z 0
  have c1 := h.c 1; have z1 := h.z 1
  have c2 := h.c 2; have z2 := h.z 2
  have c3 := h.c 3; have z3 := h.z 3
  have c4 := h.c 4; have z4 := h.z 4
  have c5 := h.c 5; have z5 := h.z 5
  simp [stC] at c0 c1 c2 c3 c4 c5
  have f0 : (48 : Int) ≤ (c : Int) := by omega
  have f1 : decide ((c : Int) ≤ (57 : Int)) = false := by simp; omega
  have f2 : ((s.k : Int) == 0) = false := by rw [beq_eq_false_iff_ne]; omega
  have f3 : ((s.which : Int) == 0) = false := by rw [beq_eq_false_iff_ne]; omega
  have f4 : ((s.which : Int) == 2) = false := by rw [beq_eq_false_iff_ne]; omega
  have f5 : ((s.which : Int) == 4) = false := by rw [beq_eq_false_iff_ne]; omega
  have f6 : ((c : Int) == 10) = false := by rw [beq_eq_false_iff_ne]; omega
  have f7 : ((s.which : Int) == 1) = false := by rw [beq_eq_false_iff_ne]; omega
  clear g0 g1 g2 g3 g4
  go_enter Try.func40, Try.ntmps40
  go_wp2_with fail
  refine (begun_any b c 6 6 rfl s _ h (by decide) hc).mono ?_
  rintro e w2 ⟨ha2, (⟨s2, ho, rfl, h2⟩ | ⟨ho, rfl⟩)⟩
  · have H2 : Hid _ := ho
    clear ho
    go_wp2_with fail
    go_ret
    exact Ans.yes ha2 (HO.out.trans H2.out) h2
  · have H2 : Hid _ := ho
    clear ho
    go_wp2_with fail
    go_ret
    exact Ans.no ha2 (HO.out.trans H2.out)


theorem sline_any (b c : Nat) (s : ST) (n : Nat) (hn : n ≤ 1000) (w : World) (h : St b s w) (ok : OKS s n) (hc : c < 256) :
    Calls Try.prog 44 #[.pointer (some ⟨b, 0, none⟩), .int .u8 (c : Int)] w fun e w' => Ans b (lineO s c) w w' e := by
  by_cases h1 : c = 10
  · exact line_nl b c s n hn w h ok hc h1
  by_cases h2 : s.wh = 0
  · by_cases h3 : c = 35
    · exact line_hash b c s n hn w h ok hc h1 h2 h3
    · exact line_o0 b c s n hn w h ok hc h1 h2 h3
  by_cases h4 : s.wh = 1
  · by_cases h5 : c = 74
    · exact line_J b c s n hn w h ok hc h1 h4 h5
    · exact line_o1 b c s n hn w h ok hc h1 h4 h5
  · exact line_o2 b c s n hn w h ok hc h1 h2 h4

theorem sname_any (b c : Nat) (s : ST) (n : Nat) (hn : n ≤ 1000) (w : World) (h : St b s w) (ok : OKS s n) (hc : c < 256) :
    Calls Try.prog 39 #[.pointer (some ⟨b, 0, none⟩), .int .u8 (c : Int)] w fun e w' => Ans b (nameO s c) w w' e := by
  by_cases h1 : c < 97
  · by_cases h2 : s.k = 0
    · exact name_0y b c s n hn w h ok hc h1 h2
    by_cases h3 : s.wh = 4
    · exact name_4y b c s n hn w h ok hc h1 h2 h3
    by_cases h4 : c = 91
    · exact name_91y b c s n hn w h ok hc h1 h2 h3 h4
    · exact name_by b c s n hn w h ok hc h1 h2 h3 h4
  by_cases h5 : 122 < c
  · by_cases h2 : s.k = 0
    · exact name_0z b c s n hn w h ok hc h5 h2
    by_cases h3 : s.wh = 4
    · exact name_4z b c s n hn w h ok hc h5 h2 h3
    · exact name_bz b c s n hn w h ok hc h5 h2 h3 (by omega)
  by_cases h6 : s.k < 6
  · exact name_let b c s n hn w h ok hc (by omega) h6
  by_cases h2 : s.k = 0
  · exact name_0x b c s n hn w h ok hc (by omega) h2
  by_cases h3 : s.wh = 4
  · exact name_4x b c s n hn w h ok hc (by omega) h2 h3
  · exact name_bx b c s n hn w h ok hc (by omega) h2 h3 (by omega)

theorem snumber_any (b c : Nat) (s : ST) (n : Nat) (hn : n ≤ 1000) (w : World) (h : St b s w) (ok : OKS s n) (hc : c < 256) :
    Calls Try.prog 40 #[.pointer (some ⟨b, 0, none⟩), .int .u8 (c : Int)] w fun e w' => Ans b (numberO s c) w w' e := by
  by_cases h1 : c < 48
  · by_cases k0 : s.k = 0
    · exact number_0c b c s n hn w h ok hc h1 k0
    by_cases w0 : s.which = 0
    · exact number_w0c b c s n hn w h ok hc h1 k0 w0
    by_cases w2 : s.which = 2
    · exact number_w2c b c s n hn w h ok hc h1 k0 w2
    by_cases w4 : s.which = 4
    · exact number_w4c b c s n hn w h ok hc h1 k0 w4
    by_cases nl : c = 10
    · exact number_nlc b c s n hn w h ok hc h1 k0 ⟨w0, w2, w4⟩ nl
    by_cases w1 : s.which = 1
    · exact number_tc b c s n hn w h ok hc h1 k0 ⟨w0, w2, w4⟩ nl w1
    · exact number_uc b c s n hn w h ok hc h1 k0 ⟨w0, w2, w4⟩ nl w1
  by_cases h2 : 57 < c
  · by_cases k0 : s.k = 0
    · exact number_0d b c s n hn w h ok hc h2 k0
    by_cases w0 : s.which = 0
    · exact number_w0d b c s n hn w h ok hc h2 k0 w0
    by_cases w2 : s.which = 2
    · exact number_w2d b c s n hn w h ok hc h2 k0 w2
    by_cases w4 : s.which = 4
    · exact number_w4d b c s n hn w h ok hc h2 k0 w4
    have nl : c ≠ 10 := by omega
    by_cases w1 : s.which = 1
    · exact number_td b c s n hn w h ok hc h2 k0 ⟨w0, w2, w4⟩ nl w1
    · exact number_ud b c s n hn w h ok hc h2 k0 ⟨w0, w2, w4⟩ nl w1
  by_cases h3 : s.k = 0
  · exact number_d0 b c s n hn w h ok hc (by omega) h3
  by_cases h4 : s.k = 1
  · cases h5 : s.no with
    | false => exact number_d1 b c s n hn w h ok hc (by omega) h4 h5
    | true =>
      have g : 48 ≤ c ∧ c ≤ 57 ∧ s.k = 1 ∧ s.no = true := ⟨by omega, by omega, h4, h5⟩
      have k0 : s.k ≠ 0 := by omega
      by_cases w0 : s.which = 0
      · exact number_w0b b c s n hn w h ok hc g k0 w0
      by_cases w2 : s.which = 2
      · exact number_w2b b c s n hn w h ok hc g k0 w2
      by_cases w4 : s.which = 4
      · exact number_w4b b c s n hn w h ok hc g k0 w4
      have nl : c ≠ 10 := by omega
      by_cases w1 : s.which = 1
      · exact number_tb b c s n hn w h ok hc g k0 ⟨w0, w2, w4⟩ nl w1
      · exact number_ub b c s n hn w h ok hc g k0 ⟨w0, w2, w4⟩ nl w1
  have g : 48 ≤ c ∧ c ≤ 57 ∧ s.k ≠ 0 ∧ s.k ≠ 1 := ⟨by omega, by omega, h3, h4⟩
  have k0 : s.k ≠ 0 := by omega
  by_cases w0 : s.which = 0
  · exact number_w0a b c s n hn w h ok hc g k0 w0
  by_cases w2 : s.which = 2
  · exact number_w2a b c s n hn w h ok hc g k0 w2
  by_cases w4 : s.which = 4
  · exact number_w4a b c s n hn w h ok hc g k0 w4
  have nl : c ≠ 10 := by omega
  by_cases w1 : s.which = 1
  · exact number_ta b c s n hn w h ok hc g k0 ⟨w0, w2, w4⟩ nl w1
  · exact number_ua b c s n hn w h ok hc g k0 ⟨w0, w2, w4⟩ nl w1

end Go.Proofs.Ytanknpmojblmcaa
