/-
  The station's lit at the last byte of a piece; lit as a whole; begun.
-/
import Derived.Test.YtanknpmojblmcaaLit
set_option linter.unusedSimpArgs false
set_option linter.unusedVariables false
namespace Go.Proofs.Ytanknpmojblmcaa
open Go.RowKit

theorem piece_int (k : Nat) (x : Int) (hx : x = (k : Int)) (hk : k ≤ 12) (w : World) :
    Calls Try.prog 56 #[.int .i64 x] w fun e w' => e = .returned (.string (bs (pieceL k))) ∧ ∃ o, w' = w.alloc o := by
  subst hx; exact piece_any k hk w

set_option maxHeartbeats 1000000 in
theorem lit_end_0 (b wh op hd : Nat) (no : Bool) (w : World) (h : St b ⟨wh, 0, 0, op, no, hd⟩ w) :
    Calls Try.prog 38 #[.pointer (some ⟨b, 0, none⟩), .int .u8 32] w fun e w' => Ans b (some (goS ⟨wh, 1, 0, op, no, hd⟩ 4 0)) w w' e := by
  have c1 := h.c 1; have c2 := h.c 2
  simp [stC] at c1 c2
  go_enter Try.func38, Try.ntmps38
  go_wp2_with fail
  refine (piece_int 0 0 rfl (by decide) _).mono ?_
  rintro e w1 ⟨he, o, hw1⟩
  have he : e = .returned (.string ⟨#[32]⟩) := he
  subst he
  have h1 : St b ⟨wh, 0, 0, op, no, hd⟩ w1 := by rw [hw1]; exact h.alloc _
  have ha : Aside b w w1 := by rw [hw1]; exact (Aside.refl b w).alloc _
  have c1 := h1.c 1; have c2 := h1.c 2; have z1 := h1.z 1
  simp [stC] at c1 c2
  clear hw1
  go_wp2_with fail
  have h2 : St b ⟨wh, 1, 0, op, no, hd⟩ (w1.setCell ⟨b, 1, none⟩ (.int .i64 1)) := h1.set 1 _ rfl
  have ha2 := ha.setCell (p := ⟨b, 1, none⟩) (Or.inl rfl) (.int .i64 1)
  refine (goes_any b _ 4 0 4 0 rfl rfl _ h2).mono ?_
  rintro e w2 ⟨rfl, h3, ha3⟩
  go_wp2_with fail
  go_ret
  exact Ans.yes (ha2.trans ha3) rfl h3

set_option maxHeartbeats 1000000 in
theorem lit_end_1 (b wh op hd : Nat) (no : Bool) (w : World) (h : St b ⟨wh, 6, 1, op, no, hd⟩ w) :
    Calls Try.prog 38 #[.pointer (some ⟨b, 0, none⟩), .int .u8 61] w fun e w' => Ans b (some (goS ⟨wh, 7, 1, op, no, hd⟩ 5 0)) w w' e := by
  have c1 := h.c 1; have c2 := h.c 2
  simp [stC] at c1 c2
  go_enter Try.func38, Try.ntmps38
  go_wp2_with fail
  refine (piece_int 1 1 rfl (by decide) _).mono ?_
  rintro e w1 ⟨he, o, hw1⟩
  have he : e = .returned (.string ⟨#[32, 110, 111, 100, 101, 115, 61]⟩) := he
  subst he
  have h1 : St b ⟨wh, 6, 1, op, no, hd⟩ w1 := by rw [hw1]; exact h.alloc _
  have ha : Aside b w w1 := by rw [hw1]; exact (Aside.refl b w).alloc _
  have c1 := h1.c 1; have c2 := h1.c 2; have z1 := h1.z 1
  simp [stC] at c1 c2
  clear hw1
  go_wp2_with fail
  have h2 : St b ⟨wh, 7, 1, op, no, hd⟩ (w1.setCell ⟨b, 1, none⟩ (.int .i64 7)) := h1.set 1 _ rfl
  have ha2 := ha.setCell (p := ⟨b, 1, none⟩) (Or.inl rfl) (.int .i64 7)
  refine (goes_any b _ 5 0 5 0 rfl rfl _ h2).mono ?_
  rintro e w2 ⟨rfl, h3, ha3⟩
  go_wp2_with fail
  go_ret
  exact Ans.yes (ha2.trans ha3) rfl h3

set_option maxHeartbeats 1000000 in
theorem lit_end_2 (b wh op hd : Nat) (no : Bool) (w : World) (h : St b ⟨wh, 5, 2, op, no, hd⟩ w) :
    Calls Try.prog 38 #[.pointer (some ⟨b, 0, none⟩), .int .u8 61] w fun e w' => Ans b (some (goS ⟨wh, 6, 2, op, no, hd⟩ 5 1)) w w' e := by
  have c1 := h.c 1; have c2 := h.c 2
  simp [stC] at c1 c2
  go_enter Try.func38, Try.ntmps38
  go_wp2_with fail
  refine (piece_int 2 2 rfl (by decide) _).mono ?_
  rintro e w1 ⟨he, o, hw1⟩
  have he : e = .returned (.string ⟨#[32, 116, 105, 109, 101, 61]⟩) := he
  subst he
  have h1 : St b ⟨wh, 5, 2, op, no, hd⟩ w1 := by rw [hw1]; exact h.alloc _
  have ha : Aside b w w1 := by rw [hw1]; exact (Aside.refl b w).alloc _
  have c1 := h1.c 1; have c2 := h1.c 2; have z1 := h1.z 1
  simp [stC] at c1 c2
  clear hw1
  go_wp2_with fail
  have h2 : St b ⟨wh, 6, 2, op, no, hd⟩ (w1.setCell ⟨b, 1, none⟩ (.int .i64 6)) := h1.set 1 _ rfl
  have ha2 := ha.setCell (p := ⟨b, 1, none⟩) (Or.inl rfl) (.int .i64 6)
  refine (goes_any b _ 5 1 5 1 rfl rfl _ h2).mono ?_
  rintro e w2 ⟨rfl, h3, ha3⟩
  go_wp2_with fail
  go_ret
  exact Ans.yes (ha2.trans ha3) rfl h3

set_option maxHeartbeats 1000000 in
theorem lit_end_3 (b wh op hd : Nat) (no : Bool) (w : World) (h : St b ⟨wh, 1, 3, op, no, hd⟩ w) :
    Calls Try.prog 38 #[.pointer (some ⟨b, 0, none⟩), .int .u8 97] w fun e w' => Ans b (some (goS ⟨wh, 2, 3, op, no, hd⟩ 6 0)) w w' e := by
  have c1 := h.c 1; have c2 := h.c 2
  simp [stC] at c1 c2
  go_enter Try.func38, Try.ntmps38
  go_wp2_with fail
  refine (piece_int 3 3 rfl (by decide) _).mono ?_
  rintro e w1 ⟨he, o, hw1⟩
  have he : e = .returned (.string ⟨#[32, 97]⟩) := he
  subst he
  have h1 : St b ⟨wh, 1, 3, op, no, hd⟩ w1 := by rw [hw1]; exact h.alloc _
  have ha : Aside b w w1 := by rw [hw1]; exact (Aside.refl b w).alloc _
  have c1 := h1.c 1; have c2 := h1.c 2; have z1 := h1.z 1
  simp [stC] at c1 c2
  clear hw1
  go_wp2_with fail
  have h2 : St b ⟨wh, 2, 3, op, no, hd⟩ (w1.setCell ⟨b, 1, none⟩ (.int .i64 2)) := h1.set 1 _ rfl
  have ha2 := ha.setCell (p := ⟨b, 1, none⟩) (Or.inl rfl) (.int .i64 2)
  refine (goes_any b _ 6 0 6 0 rfl rfl _ h2).mono ?_
  rintro e w2 ⟨rfl, h3, ha3⟩
  go_wp2_with fail
  go_ret
  exact Ans.yes (ha2.trans ha3) rfl h3

set_option maxHeartbeats 1000000 in
theorem lit_end_4 (b wh op hd : Nat) (no : Bool) (w : World) (h : St b ⟨wh, 4, 4, op, no, hd⟩ w) :
    Calls Try.prog 38 #[.pointer (some ⟨b, 0, none⟩), .int .u8 61] w fun e w' => Ans b (some (goS ⟨wh, 5, 4, op, no, hd⟩ 5 2)) w w' e := by
  have c1 := h.c 1; have c2 := h.c 2
  simp [stC] at c1 c2
  go_enter Try.func38, Try.ntmps38
  go_wp2_with fail
  refine (piece_int 4 4 rfl (by decide) _).mono ?_
  rintro e w1 ⟨he, o, hw1⟩
  have he : e = .returned (.string ⟨#[114, 114, 97, 121, 61]⟩) := he
  subst he
  have h1 : St b ⟨wh, 4, 4, op, no, hd⟩ w1 := by rw [hw1]; exact h.alloc _
  have ha : Aside b w w1 := by rw [hw1]; exact (Aside.refl b w).alloc _
  have c1 := h1.c 1; have c2 := h1.c 2; have z1 := h1.z 1
  simp [stC] at c1 c2
  clear hw1
  go_wp2_with fail
  have h2 : St b ⟨wh, 5, 4, op, no, hd⟩ (w1.setCell ⟨b, 1, none⟩ (.int .i64 5)) := h1.set 1 _ rfl
  have ha2 := ha.setCell (p := ⟨b, 1, none⟩) (Or.inl rfl) (.int .i64 5)
  refine (goes_any b _ 5 2 5 2 rfl rfl _ h2).mono ?_
  rintro e w2 ⟨rfl, h3, ha3⟩
  go_wp2_with fail
  go_ret
  exact Ans.yes (ha2.trans ha3) rfl h3

set_option maxHeartbeats 1000000 in
theorem lit_end_5 (b wh op hd : Nat) (no : Bool) (w : World) (h : St b ⟨wh, 0, 5, op, no, hd⟩ w) :
    Calls Try.prog 38 #[.pointer (some ⟨b, 0, none⟩), .int .u8 45] w fun e w' => Ans b (some (goS ⟨wh, 1, 5, op, no, hd⟩ 5 3)) w w' e := by
  have c1 := h.c 1; have c2 := h.c 2
  simp [stC] at c1 c2
  go_enter Try.func38, Try.ntmps38
  go_wp2_with fail
  refine (piece_int 5 5 rfl (by decide) _).mono ?_
  rintro e w1 ⟨he, o, hw1⟩
  have he : e = .returned (.string ⟨#[45]⟩) := he
  subst he
  have h1 : St b ⟨wh, 0, 5, op, no, hd⟩ w1 := by rw [hw1]; exact h.alloc _
  have ha : Aside b w w1 := by rw [hw1]; exact (Aside.refl b w).alloc _
  have c1 := h1.c 1; have c2 := h1.c 2; have z1 := h1.z 1
  simp [stC] at c1 c2
  clear hw1
  go_wp2_with fail
  have h2 : St b ⟨wh, 1, 5, op, no, hd⟩ (w1.setCell ⟨b, 1, none⟩ (.int .i64 1)) := h1.set 1 _ rfl
  have ha2 := ha.setCell (p := ⟨b, 1, none⟩) (Or.inl rfl) (.int .i64 1)
  refine (goes_any b _ 5 3 5 3 rfl rfl _ h2).mono ?_
  rintro e w2 ⟨rfl, h3, ha3⟩
  go_wp2_with fail
  go_ret
  exact Ans.yes (ha2.trans ha3) rfl h3

set_option maxHeartbeats 1000000 in
theorem lit_end_6 (b wh op hd : Nat) (no : Bool) (w : World) (h : St b ⟨wh, 6, 6, op, no, hd⟩ w) :
    Calls Try.prog 38 #[.pointer (some ⟨b, 0, none⟩), .int .u8 61] w fun e w' => Ans b (some (goS ⟨wh, 7, 6, op, no, hd⟩ 7 0)) w w' e := by
  have c1 := h.c 1; have c2 := h.c 2
  simp [stC] at c1 c2
  go_enter Try.func38, Try.ntmps38
  go_wp2_with fail
  refine (piece_int 6 6 rfl (by decide) _).mono ?_
  rintro e w1 ⟨he, o, hw1⟩
  have he : e = .returned (.string ⟨#[32, 97, 102, 116, 101, 114, 61]⟩) := he
  subst he
  have h1 : St b ⟨wh, 6, 6, op, no, hd⟩ w1 := by rw [hw1]; exact h.alloc _
  have ha : Aside b w w1 := by rw [hw1]; exact (Aside.refl b w).alloc _
  have c1 := h1.c 1; have c2 := h1.c 2; have z1 := h1.z 1
  simp [stC] at c1 c2
  clear hw1
  go_wp2_with fail
  have h2 : St b ⟨wh, 7, 6, op, no, hd⟩ (w1.setCell ⟨b, 1, none⟩ (.int .i64 7)) := h1.set 1 _ rfl
  have ha2 := ha.setCell (p := ⟨b, 1, none⟩) (Or.inl rfl) (.int .i64 7)
  refine (goes_any b _ 7 0 7 0 rfl rfl _ h2).mono ?_
  rintro e w2 ⟨rfl, h3, ha3⟩
  go_wp2_with fail
  go_ret
  exact Ans.yes (ha2.trans ha3) rfl h3

set_option maxHeartbeats 1000000 in
theorem lit_end_7 (b wh op hd : Nat) (no : Bool) (w : World) (h : St b ⟨wh, 4, 7, op, no, hd⟩ w) :
    Calls Try.prog 38 #[.pointer (some ⟨b, 0, none⟩), .int .u8 61] w fun e w' => Ans b (some (goS ⟨wh, 5, 7, op, no, hd⟩ 7 0)) w w' e := by
  have c1 := h.c 1; have c2 := h.c 2
  simp [stC] at c1 c2
  go_enter Try.func38, Try.ntmps38
  go_wp2_with fail
  refine (piece_int 7 7 rfl (by decide) _).mono ?_
  rintro e w1 ⟨he, o, hw1⟩
  have he : e = .returned (.string ⟨#[102, 116, 101, 114, 61]⟩) := he
  subst he
  have h1 : St b ⟨wh, 4, 7, op, no, hd⟩ w1 := by rw [hw1]; exact h.alloc _
  have ha : Aside b w w1 := by rw [hw1]; exact (Aside.refl b w).alloc _
  have c1 := h1.c 1; have c2 := h1.c 2; have z1 := h1.z 1
  simp [stC] at c1 c2
  clear hw1
  go_wp2_with fail
  have h2 : St b ⟨wh, 5, 7, op, no, hd⟩ (w1.setCell ⟨b, 1, none⟩ (.int .i64 5)) := h1.set 1 _ rfl
  have ha2 := ha.setCell (p := ⟨b, 1, none⟩) (Or.inl rfl) (.int .i64 5)
  refine (goes_any b _ 7 0 7 0 rfl rfl _ h2).mono ?_
  rintro e w2 ⟨rfl, h3, ha3⟩
  go_wp2_with fail
  go_ret
  exact Ans.yes (ha2.trans ha3) rfl h3

set_option maxHeartbeats 1000000 in
theorem lit_end_8 (b wh op hd : Nat) (no : Bool) (w : World) (h : St b ⟨wh, 2, 8, op, no, hd⟩ w) :
    Calls Try.prog 38 #[.pointer (some ⟨b, 0, none⟩), .int .u8 58] w fun e w' => Ans b (some (goS ⟨wh, 3, 8, op, no, hd⟩ 8 0)) w w' e := by
  have c1 := h.c 1; have c2 := h.c 2
  simp [stC] at c1 c2
  go_enter Try.func38, Try.ntmps38
  go_wp2_with fail
  refine (piece_int 8 8 rfl (by decide) _).mono ?_
  rintro e w1 ⟨he, o, hw1⟩
  have he : e = .returned (.string ⟨#[111, 107, 58]⟩) := he
  subst he
  have h1 : St b ⟨wh, 2, 8, op, no, hd⟩ w1 := by rw [hw1]; exact h.alloc _
  have ha : Aside b w w1 := by rw [hw1]; exact (Aside.refl b w).alloc _
  have c1 := h1.c 1; have c2 := h1.c 2; have z1 := h1.z 1
  simp [stC] at c1 c2
  clear hw1
  go_wp2_with fail
  have h2 : St b ⟨wh, 3, 8, op, no, hd⟩ (w1.setCell ⟨b, 1, none⟩ (.int .i64 3)) := h1.set 1 _ rfl
  have ha2 := ha.setCell (p := ⟨b, 1, none⟩) (Or.inl rfl) (.int .i64 3)
  refine (goes_any b _ 8 0 8 0 rfl rfl _ h2).mono ?_
  rintro e w2 ⟨rfl, h3, ha3⟩
  go_wp2_with fail
  go_ret
  exact Ans.yes (ha2.trans ha3) rfl h3

set_option maxHeartbeats 1000000 in
theorem lit_end_9 (b wh op hd : Nat) (no : Bool) (w : World) (h : St b ⟨wh, 3, 9, op, no, hd⟩ w) :
    Calls Try.prog 38 #[.pointer (some ⟨b, 0, none⟩), .int .u8 58] w fun e w' => Ans b (some (goS ⟨wh, 4, 9, op, no, hd⟩ 8 0)) w w' e := by
  have c1 := h.c 1; have c2 := h.c 2
  simp [stC] at c1 c2
  go_enter Try.func38, Try.ntmps38
  go_wp2_with fail
  refine (piece_int 9 9 rfl (by decide) _).mono ?_
  rintro e w1 ⟨he, o, hw1⟩
  have he : e = .returned (.string ⟨#[97, 110, 121, 58]⟩) := he
  subst he
  have h1 : St b ⟨wh, 3, 9, op, no, hd⟩ w1 := by rw [hw1]; exact h.alloc _
  have ha : Aside b w w1 := by rw [hw1]; exact (Aside.refl b w).alloc _
  have c1 := h1.c 1; have c2 := h1.c 2; have z1 := h1.z 1
  simp [stC] at c1 c2
  clear hw1
  go_wp2_with fail
  have h2 : St b ⟨wh, 4, 9, op, no, hd⟩ (w1.setCell ⟨b, 1, none⟩ (.int .i64 4)) := h1.set 1 _ rfl
  have ha2 := ha.setCell (p := ⟨b, 1, none⟩) (Or.inl rfl) (.int .i64 4)
  refine (goes_any b _ 8 0 8 0 rfl rfl _ h2).mono ?_
  rintro e w2 ⟨rfl, h3, ha3⟩
  go_wp2_with fail
  go_ret
  exact Ans.yes (ha2.trans ha3) rfl h3

set_option maxHeartbeats 1000000 in
theorem lit_end_10 (b wh op hd : Nat) (no : Bool) (w : World) (h : St b ⟨wh, 3, 10, op, no, hd⟩ w) :
    Calls Try.prog 38 #[.pointer (some ⟨b, 0, none⟩), .int .u8 58] w fun e w' => Ans b (some (goS ⟨wh, 4, 10, op, no, hd⟩ 8 0)) w w' e := by
  have c1 := h.c 1; have c2 := h.c 2
  simp [stC] at c1 c2
  go_enter Try.func38, Try.ntmps38
  go_wp2_with fail
  refine (piece_int 10 10 rfl (by decide) _).mono ?_
  rintro e w1 ⟨he, o, hw1⟩
  have he : e = .returned (.string ⟨#[110, 111, 116, 58]⟩) := he
  subst he
  have h1 : St b ⟨wh, 3, 10, op, no, hd⟩ w1 := by rw [hw1]; exact h.alloc _
  have ha : Aside b w w1 := by rw [hw1]; exact (Aside.refl b w).alloc _
  have c1 := h1.c 1; have c2 := h1.c 2; have z1 := h1.z 1
  simp [stC] at c1 c2
  clear hw1
  go_wp2_with fail
  have h2 : St b ⟨wh, 4, 10, op, no, hd⟩ (w1.setCell ⟨b, 1, none⟩ (.int .i64 4)) := h1.set 1 _ rfl
  have ha2 := ha.setCell (p := ⟨b, 1, none⟩) (Or.inl rfl) (.int .i64 4)
  refine (goes_any b _ 8 0 8 0 rfl rfl _ h2).mono ?_
  rintro e w2 ⟨rfl, h3, ha3⟩
  go_wp2_with fail
  go_ret
  exact Ans.yes (ha2.trans ha3) rfl h3

set_option maxHeartbeats 1000000 in
theorem lit_end_11 (b wh op hd : Nat) (no : Bool) (w : World) (h : St b ⟨wh, 5, 11, op, no, hd⟩ w) :
    Calls Try.prog 38 #[.pointer (some ⟨b, 0, none⟩), .int .u8 101] w fun e w' => Ans b (some (goS ⟨wh, 6, 11, op, no, hd⟩ 9 0)) w w' e := by
  have c1 := h.c 1; have c2 := h.c 2
  simp [stC] at c1 c2
  go_enter Try.func38, Try.ntmps38
  go_wp2_with fail
  refine (piece_int 11 11 rfl (by decide) _).mono ?_
  rintro e w1 ⟨he, o, hw1⟩
  have he : e = .returned (.string ⟨#[115, 105, 110, 103, 108, 101]⟩) := he
  subst he
  have h1 : St b ⟨wh, 5, 11, op, no, hd⟩ w1 := by rw [hw1]; exact h.alloc _
  have ha : Aside b w w1 := by rw [hw1]; exact (Aside.refl b w).alloc _
  have c1 := h1.c 1; have c2 := h1.c 2; have z1 := h1.z 1
  simp [stC] at c1 c2
  clear hw1
  go_wp2_with fail
  have h2 : St b ⟨wh, 6, 11, op, no, hd⟩ (w1.setCell ⟨b, 1, none⟩ (.int .i64 6)) := h1.set 1 _ rfl
  have ha2 := ha.setCell (p := ⟨b, 1, none⟩) (Or.inl rfl) (.int .i64 6)
  refine (goes_any b _ 9 0 9 0 rfl rfl _ h2).mono ?_
  rintro e w2 ⟨rfl, h3, ha3⟩
  go_wp2_with fail
  go_ret
  exact Ans.yes (ha2.trans ha3) rfl h3

set_option maxHeartbeats 1000000 in
theorem lit_end_12 (b wh op hd : Nat) (no : Bool) (w : World) (h : St b ⟨wh, 0, 12, op, no, hd⟩ w) :
    Calls Try.prog 38 #[.pointer (some ⟨b, 0, none⟩), .int .u8 93] w fun e w' => Ans b (some (goS ⟨wh, 1, 12, op, no, hd⟩ 9 0)) w w' e := by
  have c1 := h.c 1; have c2 := h.c 2
  simp [stC] at c1 c2
  go_enter Try.func38, Try.ntmps38
  go_wp2_with fail
  refine (piece_int 12 12 rfl (by decide) _).mono ?_
  rintro e w1 ⟨he, o, hw1⟩
  have he : e = .returned (.string ⟨#[93]⟩) := he
  subst he
  have h1 : St b ⟨wh, 0, 12, op, no, hd⟩ w1 := by rw [hw1]; exact h.alloc _
  have ha : Aside b w w1 := by rw [hw1]; exact (Aside.refl b w).alloc _
  have c1 := h1.c 1; have c2 := h1.c 2; have z1 := h1.z 1
  simp [stC] at c1 c2
  clear hw1
  go_wp2_with fail
  have h2 : St b ⟨wh, 1, 12, op, no, hd⟩ (w1.setCell ⟨b, 1, none⟩ (.int .i64 1)) := h1.set 1 _ rfl
  have ha2 := ha.setCell (p := ⟨b, 1, none⟩) (Or.inl rfl) (.int .i64 1)
  refine (goes_any b _ 9 0 9 0 rfl rfl _ h2).mono ?_
  rintro e w2 ⟨rfl, h3, ha3⟩
  go_wp2_with fail
  go_ret
  exact Ans.yes (ha2.trans ha3) rfl h3

theorem lit_any (b c : Nat) (s : ST) (w : World) (h : St b s w) (hw : s.which ≤ 12) (hk : s.k ≤ 10) (hc : c < 256) :
    Calls Try.prog 38 #[.pointer (some ⟨b, 0, none⟩), .int .u8 (c : Int)] w fun e w' => Ans b (litO s c) w w' e := by
  by_cases hn : s.k < (pieceL s.which).length ∧ byt (pieceL s.which) s.k = c
  · by_cases hl : s.k + 1 < (pieceL s.which).length
    · exact lit_mid b c s w h hw hk hc hl hn.2
    · have HO : litO s c = some (goS { s with k := s.k + 1 } (litN s.which).1 (litN s.which).2) := by simp only [litO]; rw [if_pos hn, if_neg hl]
      rw [HO]
      clear HO
      obtain ⟨wh, k, which, op, no, hd⟩ := s
      obtain ⟨h1, h2⟩ := hn
      simp only at *
      obtain rfl | rfl | rfl | rfl | rfl | rfl | rfl | rfl | rfl | rfl | rfl | rfl | rfl : which = 0 ∨ which = 1 ∨ which = 2 ∨ which = 3 ∨ which = 4 ∨ which = 5 ∨ which = 6 ∨ which = 7 ∨ which = 8 ∨ which = 9 ∨ which = 10 ∨ which = 11 ∨ which = 12 := by omega
      · obtain rfl : k = 0 := by simp [pieceL] at h1 hl; omega
        subst h2
        exact lit_end_0 b wh op hd no w h
      · obtain rfl : k = 6 := by simp [pieceL] at h1 hl; omega
        subst h2
        exact lit_end_1 b wh op hd no w h
      · obtain rfl : k = 5 := by simp [pieceL] at h1 hl; omega
        subst h2
        exact lit_end_2 b wh op hd no w h
      · obtain rfl : k = 1 := by simp [pieceL] at h1 hl; omega
        subst h2
        exact lit_end_3 b wh op hd no w h
      · obtain rfl : k = 4 := by simp [pieceL] at h1 hl; omega
        subst h2
        exact lit_end_4 b wh op hd no w h
      · obtain rfl : k = 0 := by simp [pieceL] at h1 hl; omega
        subst h2
        exact lit_end_5 b wh op hd no w h
      · obtain rfl : k = 6 := by simp [pieceL] at h1 hl; omega
        subst h2
        exact lit_end_6 b wh op hd no w h
      · obtain rfl : k = 4 := by simp [pieceL] at h1 hl; omega
        subst h2
        exact lit_end_7 b wh op hd no w h
      · obtain rfl : k = 2 := by simp [pieceL] at h1 hl; omega
        subst h2
        exact lit_end_8 b wh op hd no w h
      · obtain rfl : k = 3 := by simp [pieceL] at h1 hl; omega
        subst h2
        exact lit_end_9 b wh op hd no w h
      · obtain rfl : k = 3 := by simp [pieceL] at h1 hl; omega
        subst h2
        exact lit_end_10 b wh op hd no w h
      · obtain rfl : k = 5 := by simp [pieceL] at h1 hl; omega
        subst h2
        exact lit_end_11 b wh op hd no w h
      · obtain rfl : k = 0 := by simp [pieceL] at h1 hl; omega
        subst h2
        exact lit_end_12 b wh op hd no w h
  · exact lit_no b c s w h hw hk hc hn

set_option maxHeartbeats 400000 in
theorem begun_any (b c which : Nat) (y : Int) (hy : y = (which : Int)) (s : ST) (w : World) (h : St b s w) (hw : which ≤ 12) (hc : c < 256) :
    Calls Try.prog 58 #[.pointer (some ⟨b, 0, none⟩), .int .i64 y, .int .u8 (c : Int)] w fun e w' => Ans b (begunO s which c) w w' e := by
  have HY : Hid (y = (which : Int)) := hy
  clear hy
  go_enter Try.func58, Try.ntmps58
  go_wp2_with fail
  refine (goes_any b s 3 which 3 y rfl HY.out _ h).mono ?_
  rintro e w1 ⟨rfl, h1, ha1⟩
  go_wp2_with fail
  refine (lit_any b c (goS s 3 which) _ h1 hw (Nat.zero_le _) hc).mono ?_
  rintro e w2 ⟨ha2, (⟨s2, ho, rfl, h2⟩ | ⟨ho, rfl⟩)⟩
  · have HO : Hid (begunO s which c = some s2) := ho
    clear ho
    go_wp2_with fail
    go_ret
    exact Ans.yes (ha1.trans ha2) HO.out h2
  · have HO : Hid (begunO s which c = none) := ho
    clear ho
    go_wp2_with fail
    go_ret
    exact Ans.no (ha1.trans ha2) HO.out

end Go.Proofs.Ytanknpmojblmcaa
