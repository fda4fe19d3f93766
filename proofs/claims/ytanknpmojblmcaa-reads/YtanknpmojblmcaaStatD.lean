/-
  The station's step and whole; Place.
-/
import Derived.Test.YtanknpmojblmcaaStatC
import Derived.Deep.LoopGhost
set_option linter.unusedSimpArgs false
set_option linter.unusedVariables false
namespace Go.Proofs.Ytanknpmojblmcaa
open Go.RowKit

set_option maxHeartbeats 1000000 in
theorem step_3 (b c : Nat) (s : ST) (n : Nat) (hn : n ≤ 1000) (w : World) (h : St b s w) (ok : OKS s n) (hc : c < 256) (g0 : s.wh = 3) :
    Calls Try.prog 26 #[.pointer (some ⟨b, 0, none⟩), .int .u8 (c : Int)] w fun e w' => Ans b (stepO s c) w w' e := by
  have HO : Hid (stepO s c = litO s c) := by show _ = _; simp [stepO, g0]
  have l1 := ok.k; have l2 := ok.which; have l3 := ok.op; have l4 := ok.hd; have l5 := ok.wh
  have c0 := h.c 0; have z0 := h.z 0
  have c1 := h.c 1; have z1 := h.z 1
  have c2 := h.c 2; have z2 := h.z 2
  have c3 := h.c 3; have z3 := h.z 3
  have c4 := h.c 4; have z4 := h.z 4
  have c5 := h.c 5; have z5 := h.z 5
  simp [stC] at c0 c1 c2 c3 c4 c5
  have f0 : ((s.wh : Int) == 3) = true := by rw [beq_iff_eq]; omega
  clear g0
  go_enter Try.func26, Try.ntmps26
  go_wp2_with fail
  refine (lit_any b c s _ h ok.which ok.k hc).mono ?_
  rintro e w2 ⟨ha2, (⟨s2, ho, rfl, h2⟩ | ⟨ho, rfl⟩)⟩
  · have H2 : Hid _ := ho
    clear ho
    go_wp2_with fail
    go_ret
    exact Ans.yes ha2 (HO.out.trans H2.out) h2
  · have H2 : Hid _ := ho
    clear ho
    go_wp2_with fail
    go_ret
    exact Ans.no ha2 (HO.out.trans H2.out)

set_option maxHeartbeats 1000000 in
theorem step_4 (b c : Nat) (s : ST) (n : Nat) (hn : n ≤ 1000) (w : World) (h : St b s w) (ok : OKS s n) (hc : c < 256) (g0 : s.wh = 4) :
    Calls Try.prog 26 #[.pointer (some ⟨b, 0, none⟩), .int .u8 (c : Int)] w fun e w' => Ans b (stepO s c) w w' e := by
  have HO : Hid (stepO s c = nameO s c) := by show _ = _; simp [stepO, g0]
  have l1 := ok.k; have l2 := ok.which; have l3 := ok.op; have l4 := ok.hd; have l5 := ok.wh
  have c0 := h.c 0; have z0 := h.z 0
  have c1 := h.c 1; have z1 := h.z 1
  have c2 := h.c 2; have z2 := h.z 2
  have c3 := h.c 3; have z3 := h.z 3
  have c4 := h.c 4; have z4 := h.z 4
  have c5 := h.c 5; have z5 := h.z 5
  simp [stC] at c0 c1 c2 c3 c4 c5
  have f0 : ((s.wh : Int) == 3) = false := by rw [beq_eq_false_iff_ne]; omega
  have f1 : ((s.wh : Int) == 4) = true := by rw [beq_iff_eq]; omega
  clear g0
  go_enter Try.func26, Try.ntmps26
  go_wp2_with fail
  refine (sname_any b c s n hn _ h ok hc).mono ?_
  rintro e w2 ⟨ha2, (⟨s2, ho, rfl, h2⟩ | ⟨ho, rfl⟩)⟩
  · have H2 : Hid _ := ho
    clear ho
    go_wp2_with fail
    go_ret
    exact Ans.yes ha2 (HO.out.trans H2.out) h2
  · have H2 : Hid _ := ho
    clear ho
    go_wp2_with fail
    go_ret
    exact Ans.no ha2 (HO.out.trans H2.out)

set_option maxHeartbeats 1000000 in
theorem step_8 (b c : Nat) (s : ST) (n : Nat) (hn : n ≤ 1000) (w : World) (h : St b s w) (ok : OKS s n) (hc : c < 256) (g0 : s.wh = 8) :
    Calls Try.prog 26 #[.pointer (some ⟨b, 0, none⟩), .int .u8 (c : Int)] w fun e w' => Ans b (stepO s c) w w' e := by
  have HO : Hid (stepO s c = nameO s c) := by show _ = _; simp [stepO, g0]
  have l1 := ok.k; have l2 := ok.which; have l3 := ok.op; have l4 := ok.hd; have l5 := ok.wh
  have c0 := h.c 0; have z0 := h.z 0
  have c1 := h.c 1; have z1 := h.z 1
  have c2 := h.c 2; have z2 := h.z 2
  have c3 := h.c 3; have z3 := h.z 3
  have c4 := h.c 4; have z4 := h.z 4
  have c5 := h.c 5; have z5 := h.z 5
  simp [stC] at c0 c1 c2 c3 c4 c5
  have f0 : ((s.wh : Int) == 3) = false := by rw [beq_eq_false_iff_ne]; omega
  have f1 : ((s.wh : Int) == 4) = false := by rw [beq_eq_false_iff_ne]; omega
  have f2 : ((s.wh : Int) == 8) = true := by rw [beq_iff_eq]; omega
  clear g0
  go_enter Try.func26, Try.ntmps26
  go_wp2_with fail
  refine (sname_any b c s n hn _ h ok hc).mono ?_
  rintro e w2 ⟨ha2, (⟨s2, ho, rfl, h2⟩ | ⟨ho, rfl⟩)⟩
  · have H2 : Hid _ := ho
    clear ho
    go_wp2_with fail
    go_ret
    exact Ans.yes ha2 (HO.out.trans H2.out) h2
  · have H2 : Hid _ := ho
    clear ho
    go_wp2_with fail
    go_ret
    exact Ans.no ha2 (HO.out.trans H2.out)

set_option maxHeartbeats 1000000 in
theorem step_5 (b c : Nat) (s : ST) (n : Nat) (hn : n ≤ 1000) (w : World) (h : St b s w) (ok : OKS s n) (hc : c < 256) (g0 : s.wh = 5) :
    Calls Try.prog 26 #[.pointer (some ⟨b, 0, none⟩), .int .u8 (c : Int)] w fun e w' => Ans b (stepO s c) w w' e := by
  have HO : Hid (stepO s c = numberO s c) := by show _ = _; simp [stepO, g0]
  have l1 := ok.k; have l2 := ok.which; have l3 := ok.op; have l4 := ok.hd; have l5 := ok.wh
  have c0 := h.c 0; have z0 := h.z 0
  have c1 := h.c 1; have z1 := h.z 1
  have c2 := h.c 2; have z2 := h.z 2
  have c3 := h.c 3; have z3 := h.z 3
  have c4 := h.c 4; have z4 := h.z 4
  have c5 := h.c 5; have z5 := h.z 5
  simp [stC] at c0 c1 c2 c3 c4 c5
  have f0 : ((s.wh : Int) == 3) = false := by rw [beq_eq_false_iff_ne]; omega
  have f1 : ((s.wh : Int) == 4) = false := by rw [beq_eq_false_iff_ne]; omega
  have f2 : ((s.wh : Int) == 8) = false := by rw [beq_eq_false_iff_ne]; omega
  have f3 : ((s.wh : Int) == 5) = true := by rw [beq_iff_eq]; omega
  clear g0
  go_enter Try.func26, Try.ntmps26
  go_wp2_with fail
  refine (snumber_any b c s n hn _ h ok hc).mono ?_
  rintro e w2 ⟨ha2, (⟨s2, ho, rfl, h2⟩ | ⟨ho, rfl⟩)⟩
  · have H2 : Hid _ := ho
    clear ho
    go_wp2_with fail
    go_ret
    exact Ans.yes ha2 (HO.out.trans H2.out) h2
  · have H2 : Hid _ := ho
    clear ho
    go_wp2_with fail
    go_ret
    exact Ans.no ha2 (HO.out.trans H2.out)

set_option maxHeartbeats 1000000 in
theorem step_6 (b c : Nat) (s : ST) (n : Nat) (hn : n ≤ 1000) (w : World) (h : St b s w) (ok : OKS s n) (hc : c < 256) (g0 : s.wh = 6) :
    Calls Try.prog 26 #[.pointer (some ⟨b, 0, none⟩), .int .u8 (c : Int)] w fun e w' => Ans b (stepO s c) w w' e := by
  have HO : Hid (stepO s c = optionO s c) := by show _ = _; simp [stepO, g0]
  have l1 := ok.k; have l2 := ok.which; have l3 := ok.op; have l4 := ok.hd; have l5 := ok.wh
  have c0 := h.c 0; have z0 := h.z 0
  have c1 := h.c 1; have z1 := h.z 1
  have c2 := h.c 2; have z2 := h.z 2
  have c3 := h.c 3; have z3 := h.z 3
  have c4 := h.c 4; have z4 := h.z 4
  have c5 := h.c 5; have z5 := h.z 5
  simp [stC] at c0 c1 c2 c3 c4 c5
  have f0 : ((s.wh : Int) == 3) = false := by rw [beq_eq_false_iff_ne]; omega
  have f1 : ((s.wh : Int) == 4) = false := by rw [beq_eq_false_iff_ne]; omega
  have f2 : ((s.wh : Int) == 8) = false := by rw [beq_eq_false_iff_ne]; omega
  have f3 : ((s.wh : Int) == 5) = false := by rw [beq_eq_false_iff_ne]; omega
  have f4 : ((s.wh : Int) == 6) = true := by rw [beq_iff_eq]; omega
  clear g0
  go_enter Try.func26, Try.ntmps26
  go_wp2_with fail
  refine (soption_any b c s n hn _ h ok hc).mono ?_
  rintro e w2 ⟨ha2, (⟨s2, ho, rfl, h2⟩ | ⟨ho, rfl⟩)⟩
  · have H2 : Hid _ := ho
    clear ho
    go_wp2_with fail
    go_ret
    exact Ans.yes ha2 (HO.out.trans H2.out) h2
  · have H2 : Hid _ := ho
    clear ho
    go_wp2_with fail
    go_ret
    exact Ans.no ha2 (HO.out.trans H2.out)

set_option maxHeartbeats 1000000 in
theorem step_7 (b c : Nat) (s : ST) (n : Nat) (hn : n ≤ 1000) (w : World) (h : St b s w) (ok : OKS s n) (hc : c < 256) (g0 : s.wh = 7) :
    Calls Try.prog 26 #[.pointer (some ⟨b, 0, none⟩), .int .u8 (c : Int)] w fun e w' => Ans b (stepO s c) w w' e := by
  have HO : Hid (stepO s c = factorO s c) := by show _ = _; simp [stepO, g0]
  have l1 := ok.k; have l2 := ok.which; have l3 := ok.op; have l4 := ok.hd; have l5 := ok.wh
  have c0 := h.c 0; have z0 := h.z 0
  have c1 := h.c 1; have z1 := h.z 1
  have c2 := h.c 2; have z2 := h.z 2
  have c3 := h.c 3; have z3 := h.z 3
  have c4 := h.c 4; have z4 := h.z 4
  have c5 := h.c 5; have z5 := h.z 5
  simp [stC] at c0 c1 c2 c3 c4 c5
  have f0 : ((s.wh : Int) == 3) = false := by rw [beq_eq_false_iff_ne]; omega
  have f1 : ((s.wh : Int) == 4) = false := by rw [beq_eq_false_iff_ne]; omega
  have f2 : ((s.wh : Int) == 8) = false := by rw [beq_eq_false_iff_ne]; omega
  have f3 : ((s.wh : Int) == 5) = false := by rw [beq_eq_false_iff_ne]; omega
  have f4 : ((s.wh : Int) == 6) = false := by rw [beq_eq_false_iff_ne]; omega
  have f5 : ((s.wh : Int) == 7) = true := by rw [beq_iff_eq]; omega
  clear g0
  go_enter Try.func26, Try.ntmps26
  go_wp2_with fail
  refine (sfactor_any b c s n hn _ h ok hc).mono ?_
  rintro e w2 ⟨ha2, (⟨s2, ho, rfl, h2⟩ | ⟨ho, rfl⟩)⟩
  · have H2 : Hid _ := ho
    clear ho
    go_wp2_with fail
    go_ret
    exact Ans.yes ha2 (HO.out.trans H2.out) h2
  · have H2 : Hid _ := ho
    clear ho
    go_wp2_with fail
    go_ret
    exact Ans.no ha2 (HO.out.trans H2.out)

set_option maxHeartbeats 1000000 in
theorem step_9 (b c : Nat) (s : ST) (n : Nat) (hn : n ≤ 1000) (w : World) (h : St b s w) (ok : OKS s n) (hc : c < 256) (g0 : s.wh = 9) :
    Calls Try.prog 26 #[.pointer (some ⟨b, 0, none⟩), .int .u8 (c : Int)] w fun e w' => Ans b (stepO s c) w w' e := by
  have HO : Hid (stepO s c = behindO s c) := by show _ = _; simp [stepO, g0]
  have l1 := ok.k; have l2 := ok.which; have l3 := ok.op; have l4 := ok.hd; have l5 := ok.wh
  have c0 := h.c 0; have z0 := h.z 0
  have c1 := h.c 1; have z1 := h.z 1
  have c2 := h.c 2; have z2 := h.z 2
  have c3 := h.c 3; have z3 := h.z 3
  have c4 := h.c 4; have z4 := h.z 4
  have c5 := h.c 5; have z5 := h.z 5
  simp [stC] at c0 c1 c2 c3 c4 c5
  have f0 : ((s.wh : Int) == 3) = false := by rw [beq_eq_false_iff_ne]; omega
  have f1 : ((s.wh : Int) == 4) = false := by rw [beq_eq_false_iff_ne]; omega
  have f2 : ((s.wh : Int) == 8) = false := by rw [beq_eq_false_iff_ne]; omega
  have f3 : ((s.wh : Int) == 5) = false := by rw [beq_eq_false_iff_ne]; omega
  have f4 : ((s.wh : Int) == 6) = false := by rw [beq_eq_false_iff_ne]; omega
  have f5 : ((s.wh : Int) == 7) = false := by rw [beq_eq_false_iff_ne]; omega
  have f6 : ((s.wh : Int) == 9) = true := by rw [beq_iff_eq]; omega
  clear g0
  go_enter Try.func26, Try.ntmps26
  go_wp2_with fail
  refine (sbehind_any b c s n hn _ h ok hc).mono ?_
  rintro e w2 ⟨ha2, (⟨s2, ho, rfl, h2⟩ | ⟨ho, rfl⟩)⟩
  · have H2 : Hid _ := ho
    clear ho
    go_wp2_with fail
    go_ret
    exact Ans.yes ha2 (HO.out.trans H2.out) h2
  · have H2 : Hid _ := ho
    clear ho
    go_wp2_with fail
    go_ret
    exact Ans.no ha2 (HO.out.trans H2.out)

set_option maxHeartbeats 1000000 in
theorem step_l (b c : Nat) (s : ST) (n : Nat) (hn : n ≤ 1000) (w : World) (h : St b s w) (ok : OKS s n) (hc : c < 256) (g0 : s.wh ≤ 2) :
    Calls Try.prog 26 #[.pointer (some ⟨b, 0, none⟩), .int .u8 (c : Int)] w fun e w' => Ans b (stepO s c) w w' e := by
  have HO : Hid (stepO s c = lineO s c) := by show _ = _; simp only [stepO]; rw [if_neg (by omega), if_neg (by omega), if_neg (by omega), if_neg (by omega), if_neg (by omega), if_neg (by omega)]
  have l1 := ok.k; have l2 := ok.which; have l3 := ok.op; have l4 := ok.hd; have l5 := ok.wh
  have c0 := h.c 0; have z0 := h.z 0
  have c1 := h.c 1; have z1 := h.z 1
  have c2 := h.c 2; have z2 := h.z 2
  have c3 := h.c 3; have z3 := h.z 3
  have c4 := h.c 4; have z4 := h.z 4
  have c5 := h.c 5; have z5 := h.z 5
  simp [stC] at c0 c1 c2 c3 c4 c5
  have f0 : ((s.wh : Int) == 3) = false := by rw [beq_eq_false_iff_ne]; omega
  have f1 : ((s.wh : Int) == 4) = false := by rw [beq_eq_false_iff_ne]; omega
  have f2 : ((s.wh : Int) == 8) = false := by rw [beq_eq_false_iff_ne]; omega
  have f3 : ((s.wh : Int) == 5) = false := by rw [beq_eq_false_iff_ne]; omega
  have f4 : ((s.wh : Int) == 6) = false := by rw [beq_eq_false_iff_ne]; omega
  have f5 : ((s.wh : Int) == 7) = false := by rw [beq_eq_false_iff_ne]; omega
  have f6 : ((s.wh : Int) == 9) = false := by rw [beq_eq_false_iff_ne]; omega
  clear g0
  go_enter Try.func26, Try.ntmps26
  go_wp2_with fail
  refine (sline_any b c s n hn _ h ok hc).mono ?_
  rintro e w2 ⟨ha2, (⟨s2, ho, rfl, h2⟩ | ⟨ho, rfl⟩)⟩
  · have H2 : Hid _ := ho
    clear ho
    go_wp2_with fail
    go_ret
    exact Ans.yes ha2 (HO.out.trans H2.out) h2
  · have H2 : Hid _ := ho
    clear ho
    go_wp2_with fail
    go_ret
    exact Ans.no ha2 (HO.out.trans H2.out)

theorem step_any (b c : Nat) (s : ST) (n : Nat) (hn : n ≤ 1000) (w : World) (h : St b s w) (ok : OKS s n) (hc : c < 256) :
    Calls Try.prog 26 #[.pointer (some ⟨b, 0, none⟩), .int .u8 (c : Int)] w fun e w' => Ans b (stepO s c) w w' e := by
  have := ok.wh
  by_cases h3 : s.wh = 3
  · exact step_3 b c s n hn w h ok hc h3
  by_cases h4 : s.wh = 4
  · exact step_4 b c s n hn w h ok hc h4
  by_cases h8 : s.wh = 8
  · exact step_8 b c s n hn w h ok hc h8
  by_cases h5 : s.wh = 5
  · exact step_5 b c s n hn w h ok hc h5
  by_cases h6 : s.wh = 6
  · exact step_6 b c s n hn w h ok hc h6
  by_cases h7 : s.wh = 7
  · exact step_7 b c s n hn w h ok hc h7
  by_cases h9 : s.wh = 9
  · exact step_9 b c s n hn w h ok hc h9
  · exact step_l b c s n hn w h ok hc (by omega)

set_option maxHeartbeats 1000000 in
theorem whole_h (b : Nat) (s : ST) (n : Nat) (hn : n ≤ 1000) (w : World) (h : St b s w) (ok : OKS s n) (g0 : s.hd = 0) :
    Calls Try.prog 27 #[.pointer (some ⟨b, 0, none⟩)] w fun e w' => e = .returned (.bool (wholeB s)) ∧ w' = w := by
  have HO : Hid (wholeB s = false) := by show _ = _; simp [wholeB, g0]
  have l1 := ok.k; have l2 := ok.which; have l3 := ok.op; have l4 := ok.hd; have l5 := ok.wh
  have c0 := h.c 0
  have c1 := h.c 1
  have c2 := h.c 2
  have c3 := h.c 3
  have c5 := h.c 5
  simp [stC] at c0 c1 c2 c3 c5
  have f0 : ((s.hd : Int) == 0) = true := by rw [beq_iff_eq]; omega
  clear g0
  go_enter Try.func27, Try.ntmps27
  go_wp2_with fail
  go_ret
  rw [HO.out]
  exact ⟨rfl, rfl⟩

set_option maxHeartbeats 1000000 in
theorem whole_0 (b : Nat) (s : ST) (n : Nat) (hn : n ≤ 1000) (w : World) (h : St b s w) (ok : OKS s n) (g0 : s.hd ≠ 0) (g1 : s.wh = 0) :
    Calls Try.prog 27 #[.pointer (some ⟨b, 0, none⟩)] w fun e w' => e = .returned (.bool (wholeB s)) ∧ w' = w := by
  have HO : Hid (wholeB s = true) := by show _ = _; simp [wholeB, g0, g1]
  have l1 := ok.k; have l2 := ok.which; have l3 := ok.op; have l4 := ok.hd; have l5 := ok.wh
  have c0 := h.c 0
  have c1 := h.c 1
  have c2 := h.c 2
  have c3 := h.c 3
  have c5 := h.c 5
  simp [stC] at c0 c1 c2 c3 c5
  have f0 : ((s.hd : Int) == 0) = false := by rw [beq_eq_false_iff_ne]; omega
  have f1 : ((s.wh : Int) == 0) = true := by rw [beq_iff_eq]; omega
  clear g0 g1
  go_enter Try.func27, Try.ntmps27
  go_wp2_with fail
  go_ret
  rw [HO.out]
  exact ⟨rfl, rfl⟩

set_option maxHeartbeats 1000000 in
theorem whole_1 (b : Nat) (s : ST) (n : Nat) (hn : n ≤ 1000) (w : World) (h : St b s w) (ok : OKS s n) (g0 : s.hd ≠ 0) (g1 : s.wh = 1) :
    Calls Try.prog 27 #[.pointer (some ⟨b, 0, none⟩)] w fun e w' => e = .returned (.bool (wholeB s)) ∧ w' = w := by
  have HO : Hid (wholeB s = true) := by show _ = _; simp [wholeB, g0, g1]
  have l1 := ok.k; have l2 := ok.which; have l3 := ok.op; have l4 := ok.hd; have l5 := ok.wh
  have c0 := h.c 0
  have c1 := h.c 1
  have c2 := h.c 2
  have c3 := h.c 3
  have c5 := h.c 5
  simp [stC] at c0 c1 c2 c3 c5
  have f0 : ((s.hd : Int) == 0) = false := by rw [beq_eq_false_iff_ne]; omega
  have f1 : ((s.wh : Int) == 0) = false := by rw [beq_eq_false_iff_ne]; omega
  have f2 : ((s.wh : Int) == 1) = true := by rw [beq_iff_eq]; omega
  clear g0 g1
  go_enter Try.func27, Try.ntmps27
  go_wp2_with fail
  go_ret
  rw [HO.out]
  exact ⟨rfl, rfl⟩

set_option maxHeartbeats 1000000 in
theorem whole_2 (b : Nat) (s : ST) (n : Nat) (hn : n ≤ 1000) (w : World) (h : St b s w) (ok : OKS s n) (g0 : s.hd ≠ 0) (g1 : s.wh = 2) :
    Calls Try.prog 27 #[.pointer (some ⟨b, 0, none⟩)] w fun e w' => e = .returned (.bool (wholeB s)) ∧ w' = w := by
  have HO : Hid (wholeB s = true) := by show _ = _; simp [wholeB, g0, g1]
  have l1 := ok.k; have l2 := ok.which; have l3 := ok.op; have l4 := ok.hd; have l5 := ok.wh
  have c0 := h.c 0
  have c1 := h.c 1
  have c2 := h.c 2
  have c3 := h.c 3
  have c5 := h.c 5
  simp [stC] at c0 c1 c2 c3 c5
  have f0 : ((s.hd : Int) == 0) = false := by rw [beq_eq_false_iff_ne]; omega
  have f1 : ((s.wh : Int) == 0) = false := by rw [beq_eq_false_iff_ne]; omega
  have f2 : ((s.wh : Int) == 1) = false := by rw [beq_eq_false_iff_ne]; omega
  have f3 : ((s.wh : Int) == 2) = true := by rw [beq_iff_eq]; omega
  clear g0 g1
  go_enter Try.func27, Try.ntmps27
  go_wp2_with fail
  go_ret
  rw [HO.out]
  exact ⟨rfl, rfl⟩

set_option maxHeartbeats 1000000 in
theorem whole_5a (b : Nat) (s : ST) (n : Nat) (hn : n ≤ 1000) (w : World) (h : St b s w) (ok : OKS s n) (g0 : s.hd ≠ 0) (g1 : s.wh = 5) (g2 : s.k = 0) :
    Calls Try.prog 27 #[.pointer (some ⟨b, 0, none⟩)] w fun e w' => e = .returned (.bool (wholeB s)) ∧ w' = w := by
  have HO : Hid (wholeB s = false) := by show _ = _; simp [wholeB, g0, g1, g2]
  have l1 := ok.k; have l2 := ok.which; have l3 := ok.op; have l4 := ok.hd; have l5 := ok.wh
  have c0 := h.c 0
  have c1 := h.c 1
  have c2 := h.c 2
  have c3 := h.c 3
  have c5 := h.c 5
  simp [stC] at c0 c1 c2 c3 c5
  have f0 : ((s.hd : Int) == 0) = false := by rw [beq_eq_false_iff_ne]; omega
  have f1 : ((s.wh : Int) == 0) = false := by rw [beq_eq_false_iff_ne]; omega
  have f2 : ((s.wh : Int) == 1) = false := by rw [beq_eq_false_iff_ne]; omega
  have f3 : ((s.wh : Int) == 2) = false := by rw [beq_eq_false_iff_ne]; omega
  have f4 : ((s.wh : Int) == 5) = true := by rw [beq_iff_eq]; omega
  have f5 : s.k = 0 := g2
  clear g0 g1 g2
  go_enter Try.func27, Try.ntmps27
  go_wp2_with fail
  go_ret
  rw [HO.out]
  exact ⟨rfl, rfl⟩

set_option maxHeartbeats 1000000 in
theorem whole_5b (b : Nat) (s : ST) (n : Nat) (hn : n ≤ 1000) (w : World) (h : St b s w) (ok : OKS s n) (g0 : s.hd ≠ 0) (g1 : s.wh = 5) (g2 : 0 < s.k) (g3 : s.which = 1) :
    Calls Try.prog 27 #[.pointer (some ⟨b, 0, none⟩)] w fun e w' => e = .returned (.bool (wholeB s)) ∧ w' = w := by
  have HO : Hid (wholeB s = true) := by show _ = _; simp [wholeB, g0, g1, g2, g3]
  have l1 := ok.k; have l2 := ok.which; have l3 := ok.op; have l4 := ok.hd; have l5 := ok.wh
  have c0 := h.c 0
  have c1 := h.c 1
  have c2 := h.c 2
  have c3 := h.c 3
  have c5 := h.c 5
  simp [stC] at c0 c1 c2 c3 c5
  have f0 : ((s.hd : Int) == 0) = false := by rw [beq_eq_false_iff_ne]; omega
  have f1 : ((s.wh : Int) == 0) = false := by rw [beq_eq_false_iff_ne]; omega
  have f2 : ((s.wh : Int) == 1) = false := by rw [beq_eq_false_iff_ne]; omega
  have f3 : ((s.wh : Int) == 2) = false := by rw [beq_eq_false_iff_ne]; omega
  have f4 : ((s.wh : Int) == 5) = true := by rw [beq_iff_eq]; omega
  have f5 : (0 : Int) < (s.k : Int) := by omega
  have f6 : ((s.which : Int) == 1) = true := by rw [beq_iff_eq]; omega
  clear g0 g1 g2 g3
  go_enter Try.func27, Try.ntmps27
  go_wp2_with fail
  go_ret
  rw [HO.out]
  exact ⟨rfl, rfl⟩

set_option maxHeartbeats 1000000 in
theorem whole_5c (b : Nat) (s : ST) (n : Nat) (hn : n ≤ 1000) (w : World) (h : St b s w) (ok : OKS s n) (g0 : s.hd ≠ 0) (g1 : s.wh = 5) (g2 : 0 < s.k) (g3 : s.which = 3) :
    Calls Try.prog 27 #[.pointer (some ⟨b, 0, none⟩)] w fun e w' => e = .returned (.bool (wholeB s)) ∧ w' = w := by
  have HO : Hid (wholeB s = true) := by show _ = _; simp [wholeB, g0, g1, g2, g3]
  have l1 := ok.k; have l2 := ok.which; have l3 := ok.op; have l4 := ok.hd; have l5 := ok.wh
  have c0 := h.c 0
  have c1 := h.c 1
  have c2 := h.c 2
  have c3 := h.c 3
  have c5 := h.c 5
  simp [stC] at c0 c1 c2 c3 c5
  have f0 : ((s.hd : Int) == 0) = false := by rw [beq_eq_false_iff_ne]; omega
  have f1 : ((s.wh : Int) == 0) = false := by rw [beq_eq_false_iff_ne]; omega
  have f2 : ((s.wh : Int) == 1) = false := by rw [beq_eq_false_iff_ne]; omega
  have f3 : ((s.wh : Int) == 2) = false := by rw [beq_eq_false_iff_ne]; omega
  have f4 : ((s.wh : Int) == 5) = true := by rw [beq_iff_eq]; omega
  have f5 : (0 : Int) < (s.k : Int) := by omega
  have f6 : ((s.which : Int) == 1) = false := by rw [beq_eq_false_iff_ne]; omega
  have f7 : ((s.which : Int) == 3) = true := by rw [beq_iff_eq]; omega
  clear g0 g1 g2 g3
  go_enter Try.func27, Try.ntmps27
  go_wp2_with fail
  go_ret
  rw [HO.out]
  exact ⟨rfl, rfl⟩

set_option maxHeartbeats 1000000 in
theorem whole_5d (b : Nat) (s : ST) (n : Nat) (hn : n ≤ 1000) (w : World) (h : St b s w) (ok : OKS s n) (g0 : s.hd ≠ 0) (g1 : s.wh = 5) (g2 : 0 < s.k) (g3 : s.which ≠ 1) (g4 : s.which ≠ 3) :
    Calls Try.prog 27 #[.pointer (some ⟨b, 0, none⟩)] w fun e w' => e = .returned (.bool (wholeB s)) ∧ w' = w := by
  have HO : Hid (wholeB s = false) := by show _ = _; simp [wholeB, g0, g1, g2, g3, g4]
  have l1 := ok.k; have l2 := ok.which; have l3 := ok.op; have l4 := ok.hd; have l5 := ok.wh
  have c0 := h.c 0
  have c1 := h.c 1
  have c2 := h.c 2
  have c3 := h.c 3
  have c5 := h.c 5
  simp [stC] at c0 c1 c2 c3 c5
  have f0 : ((s.hd : Int) == 0) = false := by rw [beq_eq_false_iff_ne]; omega
  have f1 : ((s.wh : Int) == 0) = false := by rw [beq_eq_false_iff_ne]; omega
  have f2 : ((s.wh : Int) == 1) = false := by rw [beq_eq_false_iff_ne]; omega
  have f3 : ((s.wh : Int) == 2) = false := by rw [beq_eq_false_iff_ne]; omega
  have f4 : ((s.wh : Int) == 5) = true := by rw [beq_iff_eq]; omega
  have f5 : (0 : Int) < (s.k : Int) := by omega
  have f6 : ((s.which : Int) == 1) = false := by rw [beq_eq_false_iff_ne]; omega
  have f7 : ((s.which : Int) == 3) = false := by rw [beq_eq_false_iff_ne]; omega
  clear g0 g1 g2 g3 g4
  go_enter Try.func27, Try.ntmps27
  go_wp2_with fail
  go_ret
  rw [HO.out]
  exact ⟨rfl, rfl⟩

set_option maxHeartbeats 1000000 in
theorem whole_8a (b : Nat) (s : ST) (n : Nat) (hn : n ≤ 1000) (w : World) (h : St b s w) (ok : OKS s n) (g0 : s.hd ≠ 0) (g1 : s.wh = 8) (g2 : s.k = 0) :
    Calls Try.prog 27 #[.pointer (some ⟨b, 0, none⟩)] w fun e w' => e = .returned (.bool (wholeB s)) ∧ w' = w := by
  have HO : Hid (wholeB s = false) := by show _ = _; simp [wholeB, g0, g1, g2]
  have l1 := ok.k; have l2 := ok.which; have l3 := ok.op; have l4 := ok.hd; have l5 := ok.wh
  have c0 := h.c 0
  have c1 := h.c 1
  have c2 := h.c 2
  have c3 := h.c 3
  have c5 := h.c 5
  simp [stC] at c0 c1 c2 c3 c5
  have f0 : ((s.hd : Int) == 0) = false := by rw [beq_eq_false_iff_ne]; omega
  have f1 : ((s.wh : Int) == 0) = false := by rw [beq_eq_false_iff_ne]; omega
  have f2 : ((s.wh : Int) == 1) = false := by rw [beq_eq_false_iff_ne]; omega
  have f3 : ((s.wh : Int) == 2) = false := by rw [beq_eq_false_iff_ne]; omega
  have f4 : ((s.wh : Int) == 5) = false := by rw [beq_eq_false_iff_ne]; omega
  have f5 : ((s.wh : Int) == 8) = true := by rw [beq_iff_eq]; omega
  have f6 : s.k = 0 := g2
  clear g0 g1 g2
  go_enter Try.func27, Try.ntmps27
  go_wp2_with fail
  go_ret
  rw [HO.out]
  exact ⟨rfl, rfl⟩

set_option maxHeartbeats 1000000 in
theorem whole_8b (b : Nat) (s : ST) (n : Nat) (hn : n ≤ 1000) (w : World) (h : St b s w) (ok : OKS s n) (g0 : s.hd ≠ 0) (g1 : s.wh = 8) (g2 : 0 < s.k) (g3 : s.op = 0) :
    Calls Try.prog 27 #[.pointer (some ⟨b, 0, none⟩)] w fun e w' => e = .returned (.bool (wholeB s)) ∧ w' = w := by
  have HO : Hid (wholeB s = true) := by show _ = _; simp [wholeB, g0, g1, g2, g3]
  have l1 := ok.k; have l2 := ok.which; have l3 := ok.op; have l4 := ok.hd; have l5 := ok.wh
  have c0 := h.c 0
  have c1 := h.c 1
  have c2 := h.c 2
  have c3 := h.c 3
  have c5 := h.c 5
  simp [stC] at c0 c1 c2 c3 c5
  have f0 : ((s.hd : Int) == 0) = false := by rw [beq_eq_false_iff_ne]; omega
  have f1 : ((s.wh : Int) == 0) = false := by rw [beq_eq_false_iff_ne]; omega
  have f2 : ((s.wh : Int) == 1) = false := by rw [beq_eq_false_iff_ne]; omega
  have f3 : ((s.wh : Int) == 2) = false := by rw [beq_eq_false_iff_ne]; omega
  have f4 : ((s.wh : Int) == 5) = false := by rw [beq_eq_false_iff_ne]; omega
  have f5 : ((s.wh : Int) == 8) = true := by rw [beq_iff_eq]; omega
  have f6 : (0 : Int) < (s.k : Int) := by omega
  have f7 : ((s.op : Int) == 0) = true := by rw [beq_iff_eq]; omega
  clear g0 g1 g2 g3
  go_enter Try.func27, Try.ntmps27
  go_wp2_with fail
  go_ret
  rw [HO.out]
  exact ⟨rfl, rfl⟩

set_option maxHeartbeats 1000000 in
theorem whole_8c (b : Nat) (s : ST) (n : Nat) (hn : n ≤ 1000) (w : World) (h : St b s w) (ok : OKS s n) (g0 : s.hd ≠ 0) (g1 : s.wh = 8) (g2 : 0 < s.k) (g3 : s.op ≠ 0) :
    Calls Try.prog 27 #[.pointer (some ⟨b, 0, none⟩)] w fun e w' => e = .returned (.bool (wholeB s)) ∧ w' = w := by
  have HO : Hid (wholeB s = false) := by show _ = _; simp [wholeB, g0, g1, g2, g3]
  have l1 := ok.k; have l2 := ok.which; have l3 := ok.op; have l4 := ok.hd; have l5 := ok.wh
  have c0 := h.c 0
  have c1 := h.c 1
  have c2 := h.c 2
  have c3 := h.c 3
  have c5 := h.c 5
  simp [stC] at c0 c1 c2 c3 c5
  have f0 : ((s.hd : Int) == 0) = false := by rw [beq_eq_false_iff_ne]; omega
  have f1 : ((s.wh : Int) == 0) = false := by rw [beq_eq_false_iff_ne]; omega
  have f2 : ((s.wh : Int) == 1) = false := by rw [beq_eq_false_iff_ne]; omega
  have f3 : ((s.wh : Int) == 2) = false := by rw [beq_eq_false_iff_ne]; omega
  have f4 : ((s.wh : Int) == 5) = false := by rw [beq_eq_false_iff_ne]; omega
  have f5 : ((s.wh : Int) == 8) = true := by rw [beq_iff_eq]; omega
  have f6 : (0 : Int) < (s.k : Int) := by omega
  have f7 : ((s.op : Int) == 0) = false := by rw [beq_eq_false_iff_ne]; omega
  clear g0 g1 g2 g3
  go_enter Try.func27, Try.ntmps27
  go_wp2_with fail
  go_ret
  rw [HO.out]
  exact ⟨rfl, rfl⟩

set_option maxHeartbeats 1000000 in
theorem whole_9a (b : Nat) (s : ST) (n : Nat) (hn : n ≤ 1000) (w : World) (h : St b s w) (ok : OKS s n) (g0 : s.hd ≠ 0) (g1 : s.wh = 9) (g2 : s.op = 0) :
    Calls Try.prog 27 #[.pointer (some ⟨b, 0, none⟩)] w fun e w' => e = .returned (.bool (wholeB s)) ∧ w' = w := by
  have HO : Hid (wholeB s = true) := by show _ = _; simp [wholeB, g0, g1, g2]
  have l1 := ok.k; have l2 := ok.which; have l3 := ok.op; have l4 := ok.hd; have l5 := ok.wh
  have c0 := h.c 0
  have c1 := h.c 1
  have c2 := h.c 2
  have c3 := h.c 3
  have c5 := h.c 5
  simp [stC] at c0 c1 c2 c3 c5
  have f0 : ((s.hd : Int) == 0) = false := by rw [beq_eq_false_iff_ne]; omega
  have f1 : ((s.wh : Int) == 0) = false := by rw [beq_eq_false_iff_ne]; omega
  have f2 : ((s.wh : Int) == 1) = false := by rw [beq_eq_false_iff_ne]; omega
  have f3 : ((s.wh : Int) == 2) = false := by rw [beq_eq_false_iff_ne]; omega
  have f4 : ((s.wh : Int) == 5) = false := by rw [beq_eq_false_iff_ne]; omega
  have f5 : ((s.wh : Int) == 8) = false := by rw [beq_eq_false_iff_ne]; omega
  have f6 : ((s.wh : Int) == 9) = true := by rw [beq_iff_eq]; omega
  have f7 : ((s.op : Int) == 0) = true := by rw [beq_iff_eq]; omega
  clear g0 g1 g2
  go_enter Try.func27, Try.ntmps27
  go_wp2_with fail
  go_ret
  rw [HO.out]
  exact ⟨rfl, rfl⟩

set_option maxHeartbeats 1000000 in
theorem whole_9b (b : Nat) (s : ST) (n : Nat) (hn : n ≤ 1000) (w : World) (h : St b s w) (ok : OKS s n) (g0 : s.hd ≠ 0) (g1 : s.wh = 9) (g2 : s.op ≠ 0) :
    Calls Try.prog 27 #[.pointer (some ⟨b, 0, none⟩)] w fun e w' => e = .returned (.bool (wholeB s)) ∧ w' = w := by
  have HO : Hid (wholeB s = false) := by show _ = _; simp [wholeB, g0, g1, g2]
  have l1 := ok.k; have l2 := ok.which; have l3 := ok.op; have l4 := ok.hd; have l5 := ok.wh
  have c0 := h.c 0
  have c1 := h.c 1
  have c2 := h.c 2
  have c3 := h.c 3
  have c5 := h.c 5
  simp [stC] at c0 c1 c2 c3 c5
  have f0 : ((s.hd : Int) == 0) = false := by rw [beq_eq_false_iff_ne]; omega
  have f1 : ((s.wh : Int) == 0) = false := by rw [beq_eq_false_iff_ne]; omega
  have f2 : ((s.wh : Int) == 1) = false := by rw [beq_eq_false_iff_ne]; omega
  have f3 : ((s.wh : Int) == 2) = false := by rw [beq_eq_false_iff_ne]; omega
  have f4 : ((s.wh : Int) == 5) = false := by rw [beq_eq_false_iff_ne]; omega
  have f5 : ((s.wh : Int) == 8) = false := by rw [beq_eq_false_iff_ne]; omega
  have f6 : ((s.wh : Int) == 9) = true := by rw [beq_iff_eq]; omega
  have f7 : ((s.op : Int) == 0) = false := by rw [beq_eq_false_iff_ne]; omega
  clear g0 g1 g2
  go_enter Try.func27, Try.ntmps27
  go_wp2_with fail
  go_ret
  rw [HO.out]
  exact ⟨rfl, rfl⟩

set_option maxHeartbeats 1000000 in
theorem whole_o (b : Nat) (s : ST) (n : Nat) (hn : n ≤ 1000) (w : World) (h : St b s w) (ok : OKS s n) (g0 : s.hd ≠ 0) (g1 : s.wh = 3 ∨ s.wh = 4 ∨ s.wh = 6 ∨ s.wh = 7) :
    Calls Try.prog 27 #[.pointer (some ⟨b, 0, none⟩)] w fun e w' => e = .returned (.bool (wholeB s)) ∧ w' = w := by
  have HO : Hid (wholeB s = false) := by show _ = _; rcases g1 with g1 | g1 | g1 | g1 <;> simp [wholeB, g0, g1]
  have l1 := ok.k; have l2 := ok.which; have l3 := ok.op; have l4 := ok.hd; have l5 := ok.wh
  have c0 := h.c 0
  have c1 := h.c 1
  have c2 := h.c 2
  have c3 := h.c 3
  have c5 := h.c 5
  simp [stC] at c0 c1 c2 c3 c5
  have f0 : ((s.hd : Int) == 0) = false := by rw [beq_eq_false_iff_ne]; omega
  have f1 : ((s.wh : Int) == 0) = false := by rw [beq_eq_false_iff_ne]; omega
  have f2 : ((s.wh : Int) == 1) = false := by rw [beq_eq_false_iff_ne]; omega
  have f3 : ((s.wh : Int) == 2) = false := by rw [beq_eq_false_iff_ne]; omega
  have f4 : ((s.wh : Int) == 5) = false := by rw [beq_eq_false_iff_ne]; omega
  have f5 : ((s.wh : Int) == 8) = false := by rw [beq_eq_false_iff_ne]; omega
  have f6 : ((s.wh : Int) == 9) = false := by rw [beq_eq_false_iff_ne]; omega
  clear g0 g1
  go_enter Try.func27, Try.ntmps27
  go_wp2_with fail
  go_ret
  rw [HO.out]
  exact ⟨rfl, rfl⟩

theorem whole_any (b : Nat) (s : ST) (n : Nat) (hn : n ≤ 1000) (w : World) (h : St b s w) (ok : OKS s n) :
    Calls Try.prog 27 #[.pointer (some ⟨b, 0, none⟩)] w fun e w' => e = .returned (.bool (wholeB s)) ∧ w' = w := by
  have := ok.wh
  by_cases hd : s.hd = 0
  · exact whole_h b s n hn w h ok hd
  by_cases h0 : s.wh = 0
  · exact whole_0 b s n hn w h ok hd h0
  by_cases h1 : s.wh = 1
  · exact whole_1 b s n hn w h ok hd h1
  by_cases h2 : s.wh = 2
  · exact whole_2 b s n hn w h ok hd h2
  by_cases h5 : s.wh = 5
  · by_cases k0 : s.k = 0
    · exact whole_5a b s n hn w h ok hd h5 k0
    by_cases w1 : s.which = 1
    · exact whole_5b b s n hn w h ok hd h5 (by omega) w1
    by_cases w3 : s.which = 3
    · exact whole_5c b s n hn w h ok hd h5 (by omega) w3
    · exact whole_5d b s n hn w h ok hd h5 (by omega) w1 w3
  by_cases h8 : s.wh = 8
  · by_cases k0 : s.k = 0
    · exact whole_8a b s n hn w h ok hd h8 k0
    by_cases o0 : s.op = 0
    · exact whole_8b b s n hn w h ok hd h8 (by omega) o0
    · exact whole_8c b s n hn w h ok hd h8 (by omega) o0
  by_cases h9 : s.wh = 9
  · by_cases o0 : s.op = 0
    · exact whole_9a b s n hn w h ok hd h9 o0
    · exact whole_9b b s n hn w h ok hd h9 o0
  · exact whole_o b s n hn w h ok hd (by omega)

end Go.Proofs.Ytanknpmojblmcaa
