/-
  The station's other calls: behind, option, factor, line.
-/
import Derived.Test.YtanknpmojblmcaaLitEnd
set_option linter.unusedSimpArgs false
set_option linter.unusedVariables false
namespace Go.Proofs.Ytanknpmojblmcaa
open Go.RowKit

set_option maxHeartbeats 1000000 in
theorem option_r (b c : Nat) (s : ST) (n : Nat) (hn : n ≤ 1000) (w : World) (h : St b s w) (ok : OKS s n) (hc : c < 256) (g0 : c = 114) :
    Calls Try.prog 41 #[.pointer (some ⟨b, 0, none⟩), .int .u8 (c : Int)] w fun e w' => Ans b (optionO s c) w w' e := by
  have HO : Hid (optionO s c = begunO s 4 c) := by show _ = _; simp [optionO, g0]
  have l1 := ok.k; have l2 := ok.which; have l3 := ok.op; have l4 := ok.hd; have l5 := ok.wh
  have c0 := h.c 0; have z0 := h.z 0
  have c1 := h.c 1; have z1 := h.z 1
  have c2 := h.c 2; have z2 := h.z 2
  have c3 := h.c 3; have z3 := h.z 3
  have c4 := h.c 4; have z4 := h.z 4
  have c5 := h.c 5; have z5 := h.z 5
  simp [stC] at c0 c1 c2 c3 c4 c5
  have f0 : ((c : Int) == 114) = true := by rw [beq_iff_eq]; omega
  clear g0
  go_enter Try.func41, Try.ntmps41
  go_wp2_with fail
  refine (begun_any b c 4 4 rfl s _ h (by decide) hc).mono ?_
  rintro e w2 ⟨ha2, (⟨s2, ho, rfl, h2⟩ | ⟨ho, rfl⟩)⟩
  · have H2 : Hid _ := ho
    clear ho
    go_wp2_with fail
    go_ret
    exact Ans.yes ha2 (HO.out.trans H2.out) h2
  · have H2 : Hid _ := ho
    clear ho
    go_wp2_with fail
    go_ret
    exact Ans.no ha2 (HO.out.trans H2.out)

set_option maxHeartbeats 1000000 in
theorem option_f (b c : Nat) (s : ST) (n : Nat) (hn : n ≤ 1000) (w : World) (h : St b s w) (ok : OKS s n) (hc : c < 256) (g0 : c ≠ 114) :
    Calls Try.prog 41 #[.pointer (some ⟨b, 0, none⟩), .int .u8 (c : Int)] w fun e w' => Ans b (optionO s c) w w' e := by
  have HO : Hid (optionO s c = begunO s 7 c) := by show _ = _; simp [optionO, g0]
  have l1 := ok.k; have l2 := ok.which; have l3 := ok.op; have l4 := ok.hd; have l5 := ok.wh
  have c0 := h.c 0; have z0 := h.z 0
  have c1 := h.c 1; have z1 := h.z 1
  have c2 := h.c 2; have z2 := h.z 2
  have c3 := h.c 3; have z3 := h.z 3
  have c4 := h.c 4; have z4 := h.z 4
  have c5 := h.c 5; have z5 := h.z 5
  simp [stC] at c0 c1 c2 c3 c4 c5
  have f0 : ((c : Int) == 114) = false := by rw [beq_eq_false_iff_ne]; omega
  clear g0
  go_enter Try.func41, Try.ntmps41
  go_wp2_with fail
  refine (begun_any b c 7 7 rfl s _ h (by decide) hc).mono ?_
  rintro e w2 ⟨ha2, (⟨s2, ho, rfl, h2⟩ | ⟨ho, rfl⟩)⟩
  · have H2 : Hid _ := ho
    clear ho
    go_wp2_with fail
    go_ret
    exact Ans.yes ha2 (HO.out.trans H2.out) h2
  · have H2 : Hid _ := ho
    clear ho
    go_wp2_with fail
    go_ret
    exact Ans.no ha2 (HO.out.trans H2.out)

set_option maxHeartbeats 1000000 in
theorem factor_op (b c : Nat) (s : ST) (n : Nat) (hn : n ≤ 1000) (w : World) (h : St b s w) (ok : OKS s n) (hc : c < 256) (g0 : c = 40) (g1 : s.op + 1 ≤ 4) :
    Calls Try.prog 42 #[.pointer (some ⟨b, 0, none⟩), .int .u8 (c : Int)] w fun e w' => Ans b (factorO s c) w w' e := by
  have HO : Hid (factorO s c = some { s with op := s.op + 1 }) := by show _ = _; simp only [factorO]; rw [if_pos g0, if_pos g1]
  have l1 := ok.k; have l2 := ok.which; have l3 := ok.op; have l4 := ok.hd; have l5 := ok.wh
  have c0 := h.c 0; have z0 := h.z 0
  have c1 := h.c 1; have z1 := h.z 1
  have c2 := h.c 2; have z2 := h.z 2
  have c3 := h.c 3; have z3 := h.z 3
  have c4 := h.c 4; have z4 := h.z 4
  have c5 := h.c 5; have z5 := h.z 5
  simp [stC] at c0 c1 c2 c3 c4 c5
  have f0 : ((c : Int) == 40) = true := by rw [beq_iff_eq]; omega
  have f1 : (s.op : Int) ≤ (3 : Int) := by omega
  have f2 : (s.op : Int) + 1 ≤ 4 := by omega
  clear g0 g1
  go_enter Try.func42, Try.ntmps42
  go_wp2_with fail
  go_ret
  exact Ans.yes ((Aside.refl b w).setCell (Or.inl rfl) _) HO.out (h.set 3 _ (by simp [stC]))

set_option maxHeartbeats 1000000 in
theorem factor_no (b c : Nat) (s : ST) (n : Nat) (hn : n ≤ 1000) (w : World) (h : St b s w) (ok : OKS s n) (hc : c < 256) (g0 : c = 40) (g1 : ¬ s.op + 1 ≤ 4) :
    Calls Try.prog 42 #[.pointer (some ⟨b, 0, none⟩), .int .u8 (c : Int)] w fun e w' => Ans b (factorO s c) w w' e := by
  have HO : Hid (factorO s c = none) := by show _ = _; simp only [factorO]; rw [if_pos g0, if_neg g1]
  have l1 := ok.k; have l2 := ok.which; have l3 := ok.op; have l4 := ok.hd; have l5 := ok.wh
  have c0 := h.c 0; have z0 := h.z 0
  have c1 := h.c 1; have z1 := h.z 1
  have c2 := h.c 2; have z2 := h.z 2
  have c3 := h.c 3; have z3 := h.z 3
  have c4 := h.c 4; have z4 := h.z 4
  have c5 := h.c 5; have z5 := h.z 5
  simp [stC] at c0 c1 c2 c3 c4 c5
  have f0 : ((c : Int) == 40) = true := by rw [beq_iff_eq]; omega
  have f1 : decide ((s.op : Int) + 1 ≤ 4) = false := by simp; omega
  clear g0 g1
  go_enter Try.func42, Try.ntmps42
  go_wp2_with fail
  go_ret
  exact Ans.no ((Aside.refl b w).setCell (Or.inl rfl) _) HO.out

set_option maxHeartbeats 1000000 in
theorem factor_111 (b c : Nat) (s : ST) (n : Nat) (hn : n ≤ 1000) (w : World) (h : St b s w) (ok : OKS s n) (hc : c < 256) (g0 : c = 111) :
    Calls Try.prog 42 #[.pointer (some ⟨b, 0, none⟩), .int .u8 (c : Int)] w fun e w' => Ans b (factorO s c) w w' e := by
  have HO : Hid (factorO s c = begunO s 8 c) := by show _ = _; simp [factorO, g0]
  have l1 := ok.k; have l2 := ok.which; have l3 := ok.op; have l4 := ok.hd; have l5 := ok.wh
  have c0 := h.c 0; have z0 := h.z 0
  have c1 := h.c 1; have z1 := h.z 1
  have c2 := h.c 2; have z2 := h.z 2
  have c3 := h.c 3; have z3 := h.z 3
  have c4 := h.c 4; have z4 := h.z 4
  have c5 := h.c 5; have z5 := h.z 5
  simp [stC] at c0 c1 c2 c3 c4 c5
  have f0 : ((c : Int) == 40) = false := by rw [beq_eq_false_iff_ne]; omega
  have f1 : ((c : Int) == 111) = true := by rw [beq_iff_eq]; omega
  clear g0
  go_enter Try.func42, Try.ntmps42
  go_wp2_with fail
  refine (begun_any b c 8 8 rfl s _ h (by decide) hc).mono ?_
  rintro e w2 ⟨ha2, (⟨s2, ho, rfl, h2⟩ | ⟨ho, rfl⟩)⟩
  · have H2 : Hid _ := ho
    clear ho
    go_wp2_with fail
    go_ret
    exact Ans.yes ha2 (HO.out.trans H2.out) h2
  · have H2 : Hid _ := ho
    clear ho
    go_wp2_with fail
    go_ret
    exact Ans.no ha2 (HO.out.trans H2.out)

set_option maxHeartbeats 1000000 in
theorem factor_97 (b c : Nat) (s : ST) (n : Nat) (hn : n ≤ 1000) (w : World) (h : St b s w) (ok : OKS s n) (hc : c < 256) (g0 : c = 97) :
    Calls Try.prog 42 #[.pointer (some ⟨b, 0, none⟩), .int .u8 (c : Int)] w fun e w' => Ans b (factorO s c) w w' e := by
  have HO : Hid (factorO s c = begunO s 9 c) := by show _ = _; simp [factorO, g0]
  have l1 := ok.k; have l2 := ok.which; have l3 := ok.op; have l4 := ok.hd; have l5 := ok.wh
  have c0 := h.c 0; have z0 := h.z 0
  have c1 := h.c 1; have z1 := h.z 1
  have c2 := h.c 2; have z2 := h.z 2
  have c3 := h.c 3; have z3 := h.z 3
  have c4 := h.c 4; have z4 := h.z 4
  have c5 := h.c 5; have z5 := h.z 5
  simp [stC] at c0 c1 c2 c3 c4 c5
  have f0 : ((c : Int) == 40) = false := by rw [beq_eq_false_iff_ne]; omega
  have f1 : ((c : Int) == 111) = false := by rw [beq_eq_false_iff_ne]; omega
  have f2 : ((c : Int) == 97) = true := by rw [beq_iff_eq]; omega
  clear g0
  go_enter Try.func42, Try.ntmps42
  go_wp2_with fail
  refine (begun_any b c 9 9 rfl s _ h (by decide) hc).mono ?_
  rintro e w2 ⟨ha2, (⟨s2, ho, rfl, h2⟩ | ⟨ho, rfl⟩)⟩
  · have H2 : Hid _ := ho
    clear ho
    go_wp2_with fail
    go_ret
    exact Ans.yes ha2 (HO.out.trans H2.out) h2
  · have H2 : Hid _ := ho
    clear ho
    go_wp2_with fail
    go_ret
    exact Ans.no ha2 (HO.out.trans H2.out)

set_option maxHeartbeats 1000000 in
theorem factor_110 (b c : Nat) (s : ST) (n : Nat) (hn : n ≤ 1000) (w : World) (h : St b s w) (ok : OKS s n) (hc : c < 256) (g0 : c = 110) :
    Calls Try.prog 42 #[.pointer (some ⟨b, 0, none⟩), .int .u8 (c : Int)] w fun e w' => Ans b (factorO s c) w w' e := by
  have HO : Hid (factorO s c = begunO s 10 c) := by show _ = _; simp [factorO, g0]
  have l1 := ok.k; have l2 := ok.which; have l3 := ok.op; have l4 := ok.hd; have l5 := ok.wh
  have c0 := h.c 0; have z0 := h.z 0
  have c1 := h.c 1; have z1 := h.z 1
  have c2 := h.c 2; have z2 := h.z 2
  have c3 := h.c 3; have z3 := h.z 3
  have c4 := h.c 4; have z4 := h.z 4
  have c5 := h.c 5; have z5 := h.z 5
  simp [stC] at c0 c1 c2 c3 c4 c5
  have f0 : ((c : Int) == 40) = false := by rw [beq_eq_false_iff_ne]; omega
  have f1 : ((c : Int) == 111) = false := by rw [beq_eq_false_iff_ne]; omega
  have f2 : ((c : Int) == 97) = false := by rw [beq_eq_false_iff_ne]; omega
  have f3 : ((c : Int) == 110) = true := by rw [beq_iff_eq]; omega
  clear g0
  go_enter Try.func42, Try.ntmps42
  go_wp2_with fail
  refine (begun_any b c 10 10 rfl s _ h (by decide) hc).mono ?_
  rintro e w2 ⟨ha2, (⟨s2, ho, rfl, h2⟩ | ⟨ho, rfl⟩)⟩
  · have H2 : Hid _ := ho
    clear ho
    go_wp2_with fail
    go_ret
    exact Ans.yes ha2 (HO.out.trans H2.out) h2
  · have H2 : Hid _ := ho
    clear ho
    go_wp2_with fail
    go_ret
    exact Ans.no ha2 (HO.out.trans H2.out)

set_option maxHeartbeats 1000000 in
theorem factor_115 (b c : Nat) (s : ST) (n : Nat) (hn : n ≤ 1000) (w : World) (h : St b s w) (ok : OKS s n) (hc : c < 256) (g0 : c = 115) :
    Calls Try.prog 42 #[.pointer (some ⟨b, 0, none⟩), .int .u8 (c : Int)] w fun e w' => Ans b (factorO s c) w w' e := by
  have HO : Hid (factorO s c = begunO s 11 c) := by show _ = _; simp [factorO, g0]
  have l1 := ok.k; have l2 := ok.which; have l3 := ok.op; have l4 := ok.hd; have l5 := ok.wh
  have c0 := h.c 0; have z0 := h.z 0
  have c1 := h.c 1; have z1 := h.z 1
  have c2 := h.c 2; have z2 := h.z 2
  have c3 := h.c 3; have z3 := h.z 3
  have c4 := h.c 4; have z4 := h.z 4
  have c5 := h.c 5; have z5 := h.z 5
  simp [stC] at c0 c1 c2 c3 c4 c5
  have f0 : ((c : Int) == 40) = false := by rw [beq_eq_false_iff_ne]; omega
  have f1 : ((c : Int) == 111) = false := by rw [beq_eq_false_iff_ne]; omega
  have f2 : ((c : Int) == 97) = false := by rw [beq_eq_false_iff_ne]; omega
  have f3 : ((c : Int) == 110) = false := by rw [beq_eq_false_iff_ne]; omega
  have f4 : ((c : Int) == 115) = true := by rw [beq_iff_eq]; omega
  clear g0
  go_enter Try.func42, Try.ntmps42
  go_wp2_with fail
  refine (begun_any b c 11 11 rfl s _ h (by decide) hc).mono ?_
  rintro e w2 ⟨ha2, (⟨s2, ho, rfl, h2⟩ | ⟨ho, rfl⟩)⟩
  · have H2 : Hid _ := ho
    clear ho
    go_wp2_with fail
    go_ret
    exact Ans.yes ha2 (HO.out.trans H2.out) h2
  · have H2 : Hid _ := ho
    clear ho
    go_wp2_with fail
    go_ret
    exact Ans.no ha2 (HO.out.trans H2.out)

set_option maxHeartbeats 1000000 in
theorem factor_none (b c : Nat) (s : ST) (n : Nat) (hn : n ≤ 1000) (w : World) (h : St b s w) (ok : OKS s n) (hc : c < 256) (g0 : c ≠ 40 ∧ c ≠ 111 ∧ c ≠ 97 ∧ c ≠ 110 ∧ c ≠ 115) :
    Calls Try.prog 42 #[.pointer (some ⟨b, 0, none⟩), .int .u8 (c : Int)] w fun e w' => Ans b (factorO s c) w w' e := by
  have HO : Hid (factorO s c = none) := by show _ = _; obtain ⟨q1, q2, q3, q4, q5⟩ := g0; simp [factorO, q1, q2, q3, q4, q5]
  have l1 := ok.k; have l2 := ok.which; have l3 := ok.op; have l4 := ok.hd; have l5 := ok.wh
  have c0 := h.c 0; have z0 := h.z 0
  have c1 := h.c 1; have z1 := h.z 1
  have c2 := h.c 2; have z2 := h.z 2
  have c3 := h.c 3; have z3 := h.z 3
  have c4 := h.c 4; have z4 := h.z 4
  have c5 := h.c 5; have z5 := h.z 5
  simp [stC] at c0 c1 c2 c3 c4 c5
  have f0 : ((c : Int) == 40) = false := by rw [beq_eq_false_iff_ne]; omega
  have f1 : ((c : Int) == 111) = false := by rw [beq_eq_false_iff_ne]; omega
  have f2 : ((c : Int) == 97) = false := by rw [beq_eq_false_iff_ne]; omega
  have f3 : ((c : Int) == 110) = false := by rw [beq_eq_false_iff_ne]; omega
  have f4 : ((c : Int) == 115) = false := by rw [beq_eq_false_iff_ne]; omega
  clear g0
  go_enter Try.func42, Try.ntmps42
  go_wp2_with fail
  go_ret
  exact Ans.no (Aside.refl b w) HO.out

set_option maxHeartbeats 1000000 in
theorem behind_and (b c : Nat) (s : ST) (n : Nat) (hn : n ≤ 1000) (w : World) (h : St b s w) (ok : OKS s n) (hc : c < 256) (g0 : c = 38) :
    Calls Try.prog 43 #[.pointer (some ⟨b, 0, none⟩), .int .u8 (c : Int)] w fun e w' => Ans b (behindO s c) w w' e := by
  have HO : Hid (behindO s c = some (goS s 7 0)) := by show _ = _; simp [behindO, g0]
  have l1 := ok.k; have l2 := ok.which; have l3 := ok.op; have l4 := ok.hd; have l5 := ok.wh
  have c0 := h.c 0; have z0 := h.z 0
  have c1 := h.c 1; have z1 := h.z 1
  have c2 := h.c 2; have z2 := h.z 2
  have c3 := h.c 3; have z3 := h.z 3
  have c4 := h.c 4; have z4 := h.z 4
  have c5 := h.c 5; have z5 := h.z 5
  simp [stC] at c0 c1 c2 c3 c4 c5
  have f0 : ((c : Int) == 38) = true := by rw [beq_iff_eq]; omega
  clear g0
  go_enter Try.func43, Try.ntmps43
  go_wp2_with fail
  refine (goes_any b s 7 0 7 0 rfl rfl _ h).mono ?_
  rintro e w2 ⟨rfl, h2, ha2⟩
  go_wp2_with fail
  go_ret
  exact Ans.yes ha2 HO.out h2

set_option maxHeartbeats 1000000 in
theorem behind_or (b c : Nat) (s : ST) (n : Nat) (hn : n ≤ 1000) (w : World) (h : St b s w) (ok : OKS s n) (hc : c < 256) (g0 : c = 124) :
    Calls Try.prog 43 #[.pointer (some ⟨b, 0, none⟩), .int .u8 (c : Int)] w fun e w' => Ans b (behindO s c) w w' e := by
  have HO : Hid (behindO s c = some (goS s 7 0)) := by show _ = _; simp [behindO, g0]
  have l1 := ok.k; have l2 := ok.which; have l3 := ok.op; have l4 := ok.hd; have l5 := ok.wh
  have c0 := h.c 0; have z0 := h.z 0
  have c1 := h.c 1; have z1 := h.z 1
  have c2 := h.c 2; have z2 := h.z 2
  have c3 := h.c 3; have z3 := h.z 3
  have c4 := h.c 4; have z4 := h.z 4
  have c5 := h.c 5; have z5 := h.z 5
  simp [stC] at c0 c1 c2 c3 c4 c5
  have f0 : ((c : Int) == 38) = false := by rw [beq_eq_false_iff_ne]; omega
  have f1 : ((c : Int) == 124) = true := by rw [beq_iff_eq]; omega
  clear g0
  go_enter Try.func43, Try.ntmps43
  go_wp2_with fail
  refine (goes_any b s 7 0 7 0 rfl rfl _ h).mono ?_
  rintro e w2 ⟨rfl, h2, ha2⟩
  go_wp2_with fail
  go_ret
  exact Ans.yes ha2 HO.out h2

set_option maxHeartbeats 1000000 in
theorem behind_close (b c : Nat) (s : ST) (n : Nat) (hn : n ≤ 1000) (w : World) (h : St b s w) (ok : OKS s n) (hc : c < 256) (g0 : c = 41) (g1 : 0 < s.op) :
    Calls Try.prog 43 #[.pointer (some ⟨b, 0, none⟩), .int .u8 (c : Int)] w fun e w' => Ans b (behindO s c) w w' e := by
  have HO : Hid (behindO s c = some (goS { s with op := s.op - 1 } 9 0)) := by show _ = _; simp [behindO, g0, g1]
  have l1 := ok.k; have l2 := ok.which; have l3 := ok.op; have l4 := ok.hd; have l5 := ok.wh
  have c0 := h.c 0; have z0 := h.z 0
  have c1 := h.c 1; have z1 := h.z 1
  have c2 := h.c 2; have z2 := h.z 2
  have c3 := h.c 3; have z3 := h.z 3
  have c4 := h.c 4; have z4 := h.z 4
  have c5 := h.c 5; have z5 := h.z 5
  simp [stC] at c0 c1 c2 c3 c4 c5
  have f0 : ((c : Int) == 38) = false := by rw [beq_eq_false_iff_ne]; omega
  have f1 : ((c : Int) == 124) = false := by rw [beq_eq_false_iff_ne]; omega
  have f2 : ((c : Int) == 41) = true := by rw [beq_iff_eq]; omega
  have f3 : (0 : Int) < (s.op : Int) := by omega
  clear g0 g1
  go_enter Try.func43, Try.ntmps43
  go_wp2_with fail
  have q1 : St b { s with op := s.op - 1 } (w.setCell ⟨b, 3, none⟩ (.int .i64 ((s.op : Int) - 1))) := h.set 3 _ (by simp [stC]; omega)
  have q2 : Aside b w (w.setCell ⟨b, 3, none⟩ (.int .i64 ((s.op : Int) - 1))) := (Aside.refl b w).setCell (Or.inl rfl) _
  refine (goes_any b _ 9 0 9 0 rfl rfl _ q1).mono ?_
  rintro e w2 ⟨rfl, h2, ha2⟩
  go_wp2_with fail
  go_ret
  exact Ans.yes (q2.trans ha2) HO.out h2

set_option maxHeartbeats 1000000 in
theorem behind_noclose (b c : Nat) (s : ST) (n : Nat) (hn : n ≤ 1000) (w : World) (h : St b s w) (ok : OKS s n) (hc : c < 256) (g0 : c = 41) (g1 : ¬ 0 < s.op) :
    Calls Try.prog 43 #[.pointer (some ⟨b, 0, none⟩), .int .u8 (c : Int)] w fun e w' => Ans b (behindO s c) w w' e := by
  have HO : Hid (behindO s c = none) := by show _ = _; simp [behindO, g0, g1]
  have l1 := ok.k; have l2 := ok.which; have l3 := ok.op; have l4 := ok.hd; have l5 := ok.wh
  have c0 := h.c 0; have z0 := h.z 0
  have c1 := h.c 1; have z1 := h.z 1
  have c2 := h.c 2; have z2 := h.z 2
  have c3 := h.c 3; have z3 := h.z 3
  have c4 := h.c 4; have z4 := h.z 4
  have c5 := h.c 5; have z5 := h.z 5
  simp [stC] at c0 c1 c2 c3 c4 c5
  have f0 : ((c : Int) == 38) = false := by rw [beq_eq_false_iff_ne]; omega
  have f1 : ((c : Int) == 124) = false := by rw [beq_eq_false_iff_ne]; omega
  have f2 : ((c : Int) == 41) = true := by rw [beq_iff_eq]; omega
  have f3 : s.op = 0 := by omega
  have f4 : ((c : Int) == 10) = false := by rw [beq_eq_false_iff_ne]; omega
  clear g0 g1
  go_enter Try.func43, Try.ntmps43
  go_wp2_with fail
  go_ret
  exact Ans.no (Aside.refl b w) HO.out

set_option maxHeartbeats 1000000 in
theorem behind_nl (b c : Nat) (s : ST) (n : Nat) (hn : n ≤ 1000) (w : World) (h : St b s w) (ok : OKS s n) (hc : c < 256) (g0 : c = 10) (g1 : s.op = 0) :
    Calls Try.prog 43 #[.pointer (some ⟨b, 0, none⟩), .int .u8 (c : Int)] w fun e w' => Ans b (behindO s c) w w' e := by
  have HO : Hid (behindO s c = some (goS s 0 0)) := by show _ = _; simp [behindO, g0, g1]
  have l1 := ok.k; have l2 := ok.which; have l3 := ok.op; have l4 := ok.hd; have l5 := ok.wh
  have c0 := h.c 0; have z0 := h.z 0
  have c1 := h.c 1; have z1 := h.z 1
  have c2 := h.c 2; have z2 := h.z 2
  have c3 := h.c 3; have z3 := h.z 3
  have c4 := h.c 4; have z4 := h.z 4
  have c5 := h.c 5; have z5 := h.z 5
  simp [stC] at c0 c1 c2 c3 c4 c5
  have f0 : ((c : Int) == 38) = false := by rw [beq_eq_false_iff_ne]; omega
  have f1 : ((c : Int) == 124) = false := by rw [beq_eq_false_iff_ne]; omega
  have f2 : ((c : Int) == 41) = false := by rw [beq_eq_false_iff_ne]; omega
  have f3 : ((c : Int) == 10) = true := by rw [beq_iff_eq]; omega
  have f4 : ((s.op : Int) == 0) = true := by rw [beq_iff_eq]; omega
  clear g0 g1
  go_enter Try.func43, Try.ntmps43
  go_wp2_with fail
  refine (goes_any b s 0 0 0 0 rfl rfl _ h).mono ?_
  rintro e w2 ⟨rfl, h2, ha2⟩
  go_wp2_with fail
  go_ret
  exact Ans.yes ha2 HO.out h2

set_option maxHeartbeats 1000000 in
theorem behind_nonl (b c : Nat) (s : ST) (n : Nat) (hn : n ≤ 1000) (w : World) (h : St b s w) (ok : OKS s n) (hc : c < 256) (g0 : c = 10) (g1 : ¬ s.op = 0) :
    Calls Try.prog 43 #[.pointer (some ⟨b, 0, none⟩), .int .u8 (c : Int)] w fun e w' => Ans b (behindO s c) w w' e := by
  have HO : Hid (behindO s c = none) := by show _ = _; simp [behindO, g0, g1]
  have l1 := ok.k; have l2 := ok.which; have l3 := ok.op; have l4 := ok.hd; have l5 := ok.wh
  have c0 := h.c 0; have z0 := h.z 0
  have c1 := h.c 1; have z1 := h.z 1
  have c2 := h.c 2; have z2 := h.z 2
  have c3 := h.c 3; have z3 := h.z 3
  have c4 := h.c 4; have z4 := h.z 4
  have c5 := h.c 5; have z5 := h.z 5
  simp [stC] at c0 c1 c2 c3 c4 c5
  have f0 : ((c : Int) == 38) = false := by rw [beq_eq_false_iff_ne]; omega
  have f1 : ((c : Int) == 124) = false := by rw [beq_eq_false_iff_ne]; omega
  have f2 : ((c : Int) == 41) = false := by rw [beq_eq_false_iff_ne]; omega
  have f3 : ((c : Int) == 10) = true := by rw [beq_iff_eq]; omega
  have f4 : ((s.op : Int) == 0) = false := by rw [beq_eq_false_iff_ne]; omega
  clear g0 g1
  go_enter Try.func43, Try.ntmps43
  go_wp2_with fail
  go_ret
  exact Ans.no (Aside.refl b w) HO.out

set_option maxHeartbeats 1000000 in
theorem behind_none (b c : Nat) (s : ST) (n : Nat) (hn : n ≤ 1000) (w : World) (h : St b s w) (ok : OKS s n) (hc : c < 256) (g0 : c ≠ 38 ∧ c ≠ 124 ∧ c ≠ 41 ∧ c ≠ 10) :
    Calls Try.prog 43 #[.pointer (some ⟨b, 0, none⟩), .int .u8 (c : Int)] w fun e w' => Ans b (behindO s c) w w' e := by
  have HO : Hid (behindO s c = none) := by show _ = _; obtain ⟨q1, q2, q3, q4⟩ := g0; simp [behindO, q1, q2, q3, q4]
  have l1 := ok.k; have l2 := ok.which; have l3 := ok.op; have l4 := ok.hd; have l5 := ok.wh
  have c0 := h.c 0; have z0 := h.z 0
  have c1 := h.c 1; have z1 := h.z 1
  have c2 := h.c 2; have z2 := h.z 2
  have c3 := h.c 3; have z3 := h.z 3
  have c4 := h.c 4; have z4 := h.z 4
  have c5 := h.c 5; have z5 := h.z 5
  simp [stC] at c0 c1 c2 c3 c4 c5
  have f0 : ((c : Int) == 38) = false := by rw [beq_eq_false_iff_ne]; omega
  have f1 : ((c : Int) == 124) = false := by rw [beq_eq_false_iff_ne]; omega
  have f2 : ((c : Int) == 41) = false := by rw [beq_eq_false_iff_ne]; omega
  have f3 : ((c : Int) == 10) = false := by rw [beq_eq_false_iff_ne]; omega
  clear g0
  go_enter Try.func43, Try.ntmps43
  go_wp2_with fail
  go_ret
  exact Ans.no (Aside.refl b w) HO.out

theorem sbehind_any (b c : Nat) (s : ST) (n : Nat) (hn : n ≤ 1000) (w : World) (h : St b s w) (ok : OKS s n) (hc : c < 256) :
    Calls Try.prog 43 #[.pointer (some ⟨b, 0, none⟩), .int .u8 (c : Int)] w fun e w' => Ans b (behindO s c) w w' e := by
  by_cases h1 : c = 38
  · exact behind_and b c s n hn w h ok hc h1
  by_cases h2 : c = 124
  · exact behind_or b c s n hn w h ok hc h2
  by_cases h3 : c = 41
  · by_cases h4 : 0 < s.op
    · exact behind_close b c s n hn w h ok hc h3 h4
    · exact behind_noclose b c s n hn w h ok hc h3 h4
  by_cases h5 : c = 10
  · by_cases h6 : s.op = 0
    · exact behind_nl b c s n hn w h ok hc h5 h6
    · exact behind_nonl b c s n hn w h ok hc h5 h6
  · exact behind_none b c s n hn w h ok hc ⟨h1, h2, h3, h5⟩

theorem sfactor_any (b c : Nat) (s : ST) (n : Nat) (hn : n ≤ 1000) (w : World) (h : St b s w) (ok : OKS s n) (hc : c < 256) :
    Calls Try.prog 42 #[.pointer (some ⟨b, 0, none⟩), .int .u8 (c : Int)] w fun e w' => Ans b (factorO s c) w w' e := by
  by_cases h1 : c = 40
  · by_cases h2 : s.op + 1 ≤ 4
    · exact factor_op b c s n hn w h ok hc h1 h2
    · exact factor_no b c s n hn w h ok hc h1 h2
  by_cases h3 : c = 111
  · exact factor_111 b c s n hn w h ok hc h3
  by_cases h4 : c = 97
  · exact factor_97 b c s n hn w h ok hc h4
  by_cases h5 : c = 110
  · exact factor_110 b c s n hn w h ok hc h5
  by_cases h6 : c = 115
  · exact factor_115 b c s n hn w h ok hc h6
  · exact factor_none b c s n hn w h ok hc ⟨h1, h3, h4, h5, h6⟩

theorem soption_any (b c : Nat) (s : ST) (n : Nat) (hn : n ≤ 1000) (w : World) (h : St b s w) (ok : OKS s n) (hc : c < 256) :
    Calls Try.prog 41 #[.pointer (some ⟨b, 0, none⟩), .int .u8 (c : Int)] w fun e w' => Ans b (optionO s c) w w' e := by
  by_cases h1 : c = 114
  · exact option_r b c s n hn w h ok hc h1
  · exact option_f b c s n hn w h ok hc h1

end Go.Proofs.Ytanknpmojblmcaa
