/-
  Cut, walked: for every two strings and every number it returns true.
-/
import Derived.Test.YtanknpmojblmcaaGreatDoorKBatch
import Derived.Test.YtanknpmojblmcaaGreatDoorKCutC
import Derived.Test.YtanknpmojblmcaaGreatDoorKCutM
import Derived.Test.YtanknpmojblmcaaGreatDoorReadX
set_option linter.unusedSimpArgs false
set_option linter.unusedVariables false
namespace Go.Proofs.YtanknpmojblmcaaGreatDoor
open Go.RowKit

theorem row_frm {w : World} {base : Nat} {e : TypeId} {size : Nat} {v : Value} {n : Nat} {xs : List Value} (h : w.ownsRow base e size v n xs) : ∃ a c, v = .slice a n c := by
  rcases h.2 with ⟨rfl, hn0⟩ | ⟨g, cap, cur, rfl, _⟩
  · rw [hn0]; exact ⟨_, _, rfl⟩
  · exact ⟨_, _, rfl⟩

theorem cutOK_len {S : List UInt8} {a p : Nat} (h : CutOK S a p) (hl : S.length ≤ 390) : (S.take p ++ 33 :: S.drop p).length ≤ 600 := by
  rw [List.length_append, List.length_cons, List.length_take, List.length_drop]; omega

/-- Read of a text that is no batch. -/
theorem Read_no (L : List UInt8) (p : Nat) (h : readH L = ([], (2, p))) (hl : L.length ≤ 600) (w : World) :
    Calls Tryz.prog 8 #[.string (bs L)] w fun e w' => ∃ va vc, e = .returned (.tuple #[.slice va 0 vc, .int .i64 2, .int .i64 (p : Int)]) ∧ Below w.heap.size w w' := by
  refine (Read_any (bs L) w (by rw [bs_size]; unfold maxLen; omega)).mono ?_
  rintro e w' ⟨v, rfl, hown, hB⟩
  rw [bs_list] at hown ⊢
  have hj : readJ L = [] := by unfold readJ; rw [h]; rfl
  rw [hj] at hown
  rw [h]
  obtain ⟨va, vc, rfl⟩ := row_frm hown
  exact ⟨va, vc, rfl, hB⟩

theorem Submit_cut (s p : Nat) (L : List UInt8) (h : readH L = ([], (2, p))) (hl : L.length ≤ 600) (w : World) (hS : Sy s w) :
    Calls Tryz.prog 10 #[.pointer (some ⟨s, 0, none⟩), .string (bs L)] w fun e w' => e = .returned (.agg #[.int .i64 2, .int .i64 (p : Int), .int .i64 0, .int .i64 0, .slice none 0 0]) ∧ Below w.heap.size w w' :=
  Submit_not s p (bs L) w hS (by rw [bs_size]; unfold maxLen; omega) (by rw [bs_list]; exact h)

attribute [local go_sem ↓] Go.wp_at_zero Go.wp_at_succ
set_option maxRecDepth 100000 in
set_option maxHeartbeats 4000000 in
theorem Cut_walk (T M : ByteArray) (c : Int) (hc1 : -9223372036854775808 ≤ c) (hc2 : c ≤ 9223372036854775807) (w : World) (hT : T.size ≤ maxLen) (hM : M.size ≤ maxLen) :
    Calls Tryz.prog 3 #[.string T, .string M, .int .i64 c] w fun e w' => e = .returned (.bool true) ∧ Below w.heap.size w w' := by
  go_enter Tryz.func3, Tryz.ntmps3
  go_wp2_with fail
  have hB0 : Bk w.heap.size (.slice none 0 0) 0 0 (w.alloc (.cells #[.slice none 0 0, .int .i64 0, .int .i64 0] 25)) := whole_new w _
  have hW0 : Below w.heap.size w (w.alloc (.cells #[.slice none 0 0, .int .i64 0, .int .i64 0] 25)) := (Below.refl _ w).alloc (Nat.le_refl _) _
  generalize w.alloc (.cells #[.slice none 0 0, .int .i64 0, .int .i64 0] 25) = x0 at *
  obtain ⟨b, hb⟩ : ∃ b, b = w.heap.size := ⟨_, rfl⟩
  rw [← hb] at hB0 hW0 ⊢
  have HBW : Hid (b = w.heap.size) := hb
  clear hb
  refine (batchB_any b _ 0 0 [] T _ hB0 (World.ownsRow_nil _ _ _ _) hT (by simp) (fun y hy => by cases hy) (by omega) (by omega)).mono ?_
  rintro e x1 ⟨S0, v0, ns0, js0, bj0, rfl, hn1, hn3, hbj0, -, -, -, -, -, hgd0, -, hB1, hM1, hW1⟩
  replace hW1 := hW0.trans hW1
  clear hW0 hB0
  go_wp2_with fail
  refine (batchB_any b v0 _ bj0 _ M _ hB1 hM1 hM (by simpa using hn3) (by simpa using hgd0) (by omega) (by omega)).mono ?_
  rintro e x2 ⟨S, v1, ns1, js1, bj1, rfl, -, -, -, -, -, hrd, -, HL, -, -, -, -, hW2⟩
  replace hW2 := hW1.trans hW2
  obtain ⟨hl, ls, hS, hls, hlast⟩ := HL.out
  have hLn : Lined S := by rw [hS]; exact lined_of ls hls hlast
  have HLn : Hid (Lined S) := hLn
  have HRD : Hid ((readH S).2 = (0, 0)) := hrd
  have hsz := bs_size S
  have HBX : Hid (Below b w x2) := hW2
  clear hS hls hlast hLn hrd hW1 hW2 hB1 hM1 hgd0 HL ls hn1 hn3 hbj0
  go_wp2_with fail
  have hpk := pick_int c (S.length + 1) hc1 hc2 (by omega) (by omega) x2
  push_cast at hpk
  refine hpk.mono ?_
  clear hpk
  rintro e x3 ⟨k, hk, rfl, rfl⟩
  have hkS : k ≤ S.length := by omega
  clear hk
  go_wp2_with fail
  refine (line_any (bs S) k (by rw [hsz]; omega) (by rw [hsz]; omega) _).mono ?_
  rintro e x4 ⟨rfl, rfl⟩
  rw [bs_list]
  have halt := cutw_lt HLn.out hkS
  have hle := lineA_le S k
  have hby := byt_arr (bs S) (lineA S k) (by rw [hsz]; exact halt)
  rw [bs_list] at hby
  have hlI : (S.length : Int) ≤ 390 := by omega
  have hkI : (k : Int) ≤ S.length := by omega
  have haI : (lineA S k : Int) ≤ k := by omega
  have haltI : (lineA S k : Int) < S.length := by omega
  by_cases h35 : byt S (lineA S k) = 35
  focus
    have h1 := cutw_one HLn.out HRD.out hl hkS h35
    have h2 := (cutw_head HLn.out hkS h35).1
    have h2I : (lineA S k : Int) + 1 < S.length := by omega
    rw [h35] at hby
    by_cases hd : k - lineA S k < 2
    focus
      rw [if_pos hd] at h1
      have hdI : (k : Int) - (lineA S k : Int) < 2 := by omega
      have HC : Hid (CutOK S (lineA S k) (lineA S k + 2)) := h1
      clear h1
      generalize lineA S k = a at *
      go_wp2_with fail
      obtain ⟨p, hp⟩ : ∃ p : Nat, p = a + 2 := ⟨_, rfl⟩
      have hpa : (a : Int) + 2 = (p : Int) := by omega
      rw [hpa]
      rw [← hp] at HC
      clear hpa hp hd hdI h2 h2I
    rotate_left 1
    focus
      rw [if_neg hd] at h1
      have hdI : ¬ (k : Int) - (lineA S k : Int) < 2 := by omega
      have HC : Hid (CutOK S (lineA S k) k) := h1
      clear h1
      generalize lineA S k = a at *
      go_wp2_with fail
      obtain ⟨p, hp⟩ : ∃ p : Nat, p = k := ⟨_, rfl⟩
      rw [← hp] at HC ⊢
      clear hp hd hdI h2 h2I
  rotate_left 2
  focus
    generalize lineA S k = a0 at *
    go_wp2_with fail
    all_goals
      refine (line_any (bs S) S.length (by rw [hsz]; omega) (by rw [hsz]; omega) _).mono ?_
      rintro e x5 ⟨rfl, rfl⟩
      rw [bs_list]
      have HC : Hid (CutOK S (lineA S S.length) S.length) := cutw_far HLn.out HRD.out hl
      generalize lineA S S.length = a at *
      go_wp2_with fail
      obtain ⟨p, hp⟩ : ∃ p : Nat, p = S.length := ⟨_, rfl⟩
      rw [← hp] at HC ⊢
      clear hp
  all_goals
    have hap := HC.out.1
    have hpS := HC.out.2.1
    have hcr := HC.out.2.2.1
    have htx := cutw_text S _ hpS
    have hlt := cutOK_len HC.out hl
    have hapI : (a : Int) ≤ (p : Int) := by omega
    have hpI : (p : Int) ≤ S.length := by omega
    have HS := HBX.out.size
    rw [← HBW.out] at HS
    go_region_with (go_at_call 8; refine (Read_no _ _ hcr hlt _).mono ?_; rintro e y1 ⟨la, lc, rfl, hY1⟩; have HY1 : Hid (Below b w y1) := (HBX.out.drew).trans (hY1.mono HS); clear hY1)
    all_goals
      clear HBX HS
      go_wp2_with fail
      refine (begin_seven _).mono ?_
      rintro e y2 ⟨o, s, q, rfl, hWo, hSy, hBk, hY2⟩
      have HS1 := HY1.out.size
      rw [← HBW.out] at HS1
      have HY2 : Hid (Below b w y2) := HY1.out.trans (hY2.mono HS1)
      clear hY2 HY1 HS1
      have o0 := hWo.c 0
      simp at o0
      have ho := whole_lt hWo
      have hs := whole_lt hSy
      have hq := whole_lt hBk
      have HWo : Hid (Wo o s q y2) := hWo
      have HBk : Hid (Bk0 q y2) := hBk
      have hSd : Sy s y2.drew := hSy
      have hSe : Sy s (y2.alloc (.cells #[.int .i64 0, .int .i64 0, .int .i64 0, .int .i64 0, .slice none 0 0] 38)).drew := whole_alloc hSy _
      go_wp2_with fail
      have Y := whole_new y2 (.cells #[.int .i64 0, .int .i64 0, .int .i64 0, .int .i64 0, .slice none 0 0] 38 (0, 0))
      have HS2 := HY2.out.size
      rw [← HBW.out] at HS2
      have hW0 : Below b w (y2.alloc (.cells #[.int .i64 0, .int .i64 0, .int .i64 0, .int .i64 0, .slice none 0 0] 38)).drew := (HY2.out.alloc HS2 _).drew
      go_region_with (first
        | (go_at_call 10; refine (Submit_cut s _ _ hcr hlt y2.drew hSd).mono ?_; rintro e y3 ⟨rfl, hY3⟩; have HY3 : Hid (Below b w y3) := HY2.out.drew.trans (hY3.mono HS2); have Y1 := whole_new y3 (.cells #[.int .i64 0, .int .i64 0, .int .i64 0, .int .i64 0, .slice none 0 0] 38 (0, 0)); have z0 := whole_frozen Y1 0; have z1 := whole_frozen Y1 1; have z2 := whole_frozen Y1 2; have z3 := whole_frozen Y1 3; have z4 := whole_frozen Y1 4)
        | (go_at_call 10; refine (Submit_cut s _ _ hcr hlt _ hSe).mono ?_; rintro e y3 ⟨rfl, hY3⟩; have Y1 := (hY3.block _ (whole_lt Y)).trans Y; have z0 := whole_frozen Y1 0; have z1 := whole_frozen Y1 1; have z2 := whole_frozen Y1 2; have z3 := whole_frozen Y1 3; have z4 := whole_frozen Y1 4; have j0 := whole_cell Y1 0; have j1 := whole_cell Y1 1; have j2 := whole_cell Y1 2; have j3 := whole_cell Y1 3; have j4 := whole_cell Y1 4; simp at j0 j1 j2 j3 j4))
      all_goals
        first
          | (have HD : Hid (Below y2.heap.size y2 (y3.alloc (.cells #[.int .i64 2, .int .i64 (p : Int), .int .i64 0, .int .i64 0, .slice none 0 0] 38))) := ((Below.refl _ y2).drew.trans hY3).alloc hY3.size _
             have G : (y3.alloc (.cells #[.int .i64 2, .int .i64 (p : Int), .int .i64 0, .int .i64 0, .slice none 0 0] 38)).heap[y3.heap.size]? = some (.cells #[.int .i64 2, .int .i64 (p : Int), .int .i64 0, .int .i64 0, .slice none 0 0] 38 (0, 0)) := whole_new y3 _
             clear Y1 z0 z1 z2 z3 z4 hY3 HY3
             generalize y3.alloc (.cells #[.int .i64 2, .int .i64 (p : Int), .int .i64 0, .int .i64 0, .slice none 0 0] 38) = y4 at *)
          | (have HD : Hid (Below y2.heap.size y2 (((((y3.setCell ⟨y2.heap.size, 0, none⟩ (.int .i64 2)).setCell ⟨y2.heap.size, 1, none⟩ (.int .i64 (p : Int))).setCell ⟨y2.heap.size, 2, none⟩ (.int .i64 0)).setCell ⟨y2.heap.size, 3, none⟩ (.int .i64 0)).setCell ⟨y2.heap.size, 4, none⟩ (.slice none 0 0))) := ((((((((Below.refl _ y2).alloc (Nat.le_refl _) _).drew).trans (hY3.mono (by simp))).setCell (Nat.le_refl _) _).setCell (Nat.le_refl _) _).setCell (Nat.le_refl _) _).setCell (Nat.le_refl _) _).setCell (Nat.le_refl _) _
             have G : (((((y3.setCell ⟨y2.heap.size, 0, none⟩ (.int .i64 2)).setCell ⟨y2.heap.size, 1, none⟩ (.int .i64 (p : Int))).setCell ⟨y2.heap.size, 2, none⟩ (.int .i64 0)).setCell ⟨y2.heap.size, 3, none⟩ (.int .i64 0)).setCell ⟨y2.heap.size, 4, none⟩ (.slice none 0 0)).heap[y2.heap.size]? = some (.cells #[.int .i64 2, .int .i64 (p : Int), .int .i64 0, .int .i64 0, .slice none 0 0] 38 (0, 0)) := whole_set (whole_set (whole_set (whole_set (whole_set Y1 0 _) 1 _) 2 _) 3 _) 4 _
             clear Y1 z0 z1 z2 z3 z4 j0 j1 j2 j3 j4 hY3
             generalize ((((y3.setCell ⟨y2.heap.size, 0, none⟩ (.int .i64 2)).setCell ⟨y2.heap.size, 1, none⟩ (.int .i64 (p : Int))).setCell ⟨y2.heap.size, 2, none⟩ (.int .i64 0)).setCell ⟨y2.heap.size, 3, none⟩ (.int .i64 0)).setCell ⟨y2.heap.size, 4, none⟩ (.slice none 0 0) = y4 at *)
        clear hW0 Y hSd hSe o0
        have hWo4 : Wo o s q y4 := (HD.out.block o ho).trans HWo.out
        have hSy4 : Sy s y4 := hSy.below HD.out hs
        have hBk4 : Bk0 q y4 := (HD.out.block q hq).trans HBk.out
        have HY4 : Hid (Below b w y4) := HY2.out.trans (HD.out.mono HS2)
        have hG := whole_lt G
        go_wp2_with fail
        refine (all_new o s q y4 hWo4 hSy4 hBk4).mono ?_
        rintro e y5 ⟨rfl, hY5⟩
        have G5 := (hY5.block _ hG).trans G
        have g0 := whole_cell G5 0; have g1 := whole_cell G5 1; have g3 := whole_cell G5 3
        simp at g0 g1 g3
        have HS4 := HY4.out.size
        rw [← HBW.out] at HS4
        have HY5 : Hid (Below b w y5) := HY4.out.trans (hY5.mono HS4)
        clear hWo4 hSy4 hBk4 HY4 HS4 hY5 G G5 hG HD HWo HBk HY2 HS2 hWo hSy hBk ho hs hq
        by_cases h11 : p ≤ a + 11
        · have h11I : (p : Int) - (a : Int) ≤ 11 := by omega
          have hrd := HC.out.2.2.2 h11
          have hfr := cutw_front S p
          have HS5 := HY5.out.size
          rw [← HBW.out] at HS5
          go_wp2_with fail
          refine (Read_no _ _ hrd (by rw [List.length_take]; omega) _).mono ?_
          rintro e y6 ⟨ma, mc, rfl, hY6⟩
          have HY6 : Hid (Below b w y6) := HY5.out.trans (hY6.mono HS5)
          clear hY6 HY5 HS5 g0 g1 g3
          go_wp2_with fail
          go_ret
          exact ⟨rfl, by rw [← HBW.out]; exact HY6.out⟩
        · have h11I : ¬ (p : Int) - (a : Int) ≤ 11 := by omega
          go_wp2_with fail
          go_ret
          exact ⟨rfl, by rw [← HBW.out]; exact HY5.out⟩
end Go.Proofs.YtanknpmojblmcaaGreatDoor
