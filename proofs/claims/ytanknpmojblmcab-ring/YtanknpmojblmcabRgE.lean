/-
  Ring.
-/
import Derived.Test.YtanknpmojblmcabN4
import Derived.Deep.DeepCutAuto
set_option linter.unusedSimpArgs false
set_option linter.unusedVariables false
namespace Go.Proofs.Ytanknpmojblmcab
open Go.RowKit

set_option maxRecDepth 100000 in
set_option maxHeartbeats 8000000 in
theorem Ring_walk (a b c : Int) (ha1 : -9223372036854775808 ≤ a) (ha2 : a ≤ 9223372036854775807) (hb1 : -9223372036854775808 ≤ b) (hb2 : b ≤ 9223372036854775807) (hc1 : -9223372036854775808 ≤ c) (hc2 : c ≤ 9223372036854775807) (w : World) :
    Calls Try.prog 3 #[.int .i64 a, .int .i64 b, .int .i64 c] w fun e w' => e = .returned (.bool true) ∧ Below w.heap.size w w' := by
  go_enter Try.func3, Try.ntmps3
  go_wp2_with fail
  refine (rgPick a 12 ha1 ha2 (by omega) (by omega) w).mono ?_
  rintro e x1 ⟨rfl, rfl⟩
  obtain ⟨k0, hk0⟩ : ∃ k0, k0 = pickD a % 12 := ⟨_, rfl⟩
  rw [← hk0]
  have hk1 : k0 < 12 := by rw [hk0]; exact Nat.mod_lt _ (by omega)
  obtain ⟨n, hn⟩ : ∃ n, n = 1 + k0 := ⟨_, rfl⟩
  have en : (1 : Int) + (k0 : Int) = (n : Int) := by omega
  have hn1 : 1 ≤ n := by omega
  have hn12 : n ≤ 12 := by omega
  clear hk0 hn hk1
  go_wp2_with fail
  refine (rgPick b n hb1 hb2 (by omega) (by omega) _).mono ?_
  rintro e x2 ⟨rfl, rfl⟩
  obtain ⟨k1, hk1⟩ : ∃ k1, k1 = pickD b % n := ⟨_, rfl⟩
  rw [← hk1]
  have hk2 : k1 < n := by rw [hk1]; exact Nat.mod_lt _ (by omega)
  obtain ⟨s0, hs0⟩ : ∃ s0, s0 = 1 + k1 := ⟨_, rfl⟩
  have es : (1 : Int) + (k1 : Int) = (s0 : Int) := by omega
  have hs1 : 1 ≤ s0 := by omega
  have hsn : s0 ≤ n := by omega
  clear hk1 hs0 hk2
  go_wp2_with fail
  refine (rgApart s0 n (by omega) hn12 _).mono ?_
  rintro e x3 ⟨he, rfl⟩
  rw [apr_cop hn12 hsn hs1] at he
  obtain ⟨s, cp, hs, hss1, hssn, hcc⟩ : ∃ (s : Nat) (cp : Bool), cop s0 n = cp ∧ 1 ≤ s ∧ s ≤ n ∧ ((cop s n = true ∨ s = 1) ∧ s = if cp = true then s0 else 1) := by
    cases h : cop s0 n with
    | true => exact ⟨s0, true, rfl, hs1, hsn, Or.inl h, by simp⟩
    | false => exact ⟨1, false, rfl, Nat.le_refl _, hn1, Or.inr rfl, by simp⟩
  obtain ⟨hcop, hsv⟩ := hcc
  rw [hs] at he
  subst he
  clear hs
  have HC : Hid (cop s n = true ∨ s = 1) := hcop
  clear hcop
  go_upto_if 31 with fail
  go_cut [8] (fun s8 wx => s8 = .int .i64 (s : Int) ∧ wx = x3)
  case first =>
    cases cp with
    | true =>
      have hsv' : s = s0 := by rw [hsv]; rfl
      clear hsv
      subst hsv'
      go_wp2_with fail
      go_meet
      case rel => exact ⟨rfl, rfl⟩
    | false =>
      have hsv' : s = 1 := by rw [hsv]; rfl
      clear hsv
      subst hsv'
      go_wp2_with fail
      go_meet
      case rel => exact ⟨rfl, rfl⟩
  case rest =>
    obtain ⟨rfl, rfl⟩ := hcut
    rename World => x3
    clear hsv hsn hs1
    have hsn : s ≤ n := hssn
    have hs1 : 1 ≤ s := hss1
    go_wp2_with fail
    refine (rgBegin c hc1 hc2 _).mono ?_
    rintro e x4 ⟨bw, sy, kb, rfl, hW, hbw, hS, hB4⟩
    obtain ⟨N, hN⟩ : ∃ N, N = 1 + pickD c % 8 := ⟨_, rfl⟩
    have hN1 : 1 ≤ N := by omega
    have hN8 : N ≤ 8 := by have : pickD c % 8 < 8 := Nat.mod_lt _ (by omega); omega
    rw [← hN] at hW hS
    clear hN
    have HW : Hid (WoR bw sy N kb x4) := hW
    have HS4 : Hid (SM (fun j => x3.heap.size ≤ j ∧ j ≠ bw) sy (newP N) (.slice none 0 0) (.slice none 0 0) (.slice none 0 0) x4) := hS
    have HB4 : Hid (Below x3.heap.size x3 x4) := hB4
    have c0 := whole_cell hW 0
    simp at c0
    have hbl := whole_lt hW
    clear hW hS hB4
    have Y := whole_new x4 (.cells #[.int .i64 0, .int .i64 0, .int .i64 0, .int .i64 0, .slice none 0 0] 30 (0, 0))
    have Bd : Below x4.heap.size x4 x4.drew := (Below.refl _ _).drew
    have Ba : Below x4.heap.size x4 (x4.alloc (.cells #[.int .i64 0, .int .i64 0, .int .i64 0, .int .i64 0, .slice none 0 0] 30)).drew := ((Below.refl _ _).alloc (Nat.le_refl _) _).drew
    go_upto_region 9 with fail
    go_cut [12] (fun s12 y3 => ∃ (vb : Nat) (ra : Option Addr) (rc : Nat) (l : List Nat) (av : Nat), s12 = .pointer (some ⟨vb, 0, none⟩) ∧ av < n ∧ Hid (l = ((List.range n).map fun j => (av + j * s) % n)) ∧ y3.heap[vb]? = some (.cells #[.int .i64 7, .int .i64 0, .int .i64 0, .int .i64 0, .slice ra l.length rc] 30 (0, 0)) ∧ Hid (Below x4.heap.size x4 y3) ∧ Hid (Ns (.slice ra l.length rc) l y3))
    case first =>
      go_region_with (first
        | (go_at_call 8; refine (rgCircle n s b (-1) x4.drew (by omega) (by omega) hb1 hb2 (by omega) (by omega)).mono ?_; rintro e y1 ⟨rfl, hY1⟩; have By : Below x4.heap.size x4 y1 := Bd.trans (hY1.mono (Nat.le_refl _)); have c1 := (By.cell (p := ⟨bw, 0, none⟩) hbl).trans c0; have hby : bw < y1.heap.size := Nat.lt_of_lt_of_le hbl By.size; have Ya := whole_new y1 (.cells #[.int .i64 0, .int .i64 0, .int .i64 0, .int .i64 0, .slice none 0 0] 30 (0, 0)); have By2 : Below x4.heap.size x4 (y1.alloc (.cells #[.int .i64 0, .int .i64 0, .int .i64 0, .int .i64 0, .slice none 0 0] 30)) := By.alloc By.size _)
        | (go_at_call 8; refine (rgCircle n s b (-1) (x4.alloc (.cells #[.int .i64 0, .int .i64 0, .int .i64 0, .int .i64 0, .slice none 0 0] 30)).drew (by omega) (by omega) hb1 hb2 (by omega) (by omega)).mono ?_; rintro e y1 ⟨rfl, hY1⟩; have By : Below x4.heap.size x4 y1 := Ba.trans (hY1.mono (by simp)); have c1 := (By.cell (p := ⟨bw, 0, none⟩) hbl).trans c0; have hby : bw < y1.heap.size := Nat.lt_of_lt_of_le hbl By.size; have Yv := (hY1.block _ (whole_lt Y)).trans Y)
        | (go_at_call 7; refine (sub_shut (w := y1.alloc (.cells #[.int .i64 0, .int .i64 0, .int .i64 0, .int .i64 0, .slice none 0 0] 30)) (HS4.out.below By2) (by omega) hn12 hN1 hN8 hsn hs1 HC.out).mono ?_; rintro e y2 ⟨av, l, ra, rc, hav, hl, rfl, hrow, hY2⟩; have HLl := Hid.mk' hl; clear hl; have Yn := (hY2.block _ (whole_lt Ya)).trans Ya; have z0 := whole_frozen Yn 0; have z1 := whole_frozen Yn 1; have z2 := whole_frozen Yn 2; have z3 := whole_frozen Yn 3; have z4 := whole_frozen Yn 4; have j0 := whole_cell Yn 0; have j1 := whole_cell Yn 1; have j2 := whole_cell Yn 2; have j3 := whole_cell Yn 3; have j4 := whole_cell Yn 4; simp at j0 j1 j2 j3 j4; have By3 : Below x4.heap.size x4 y2 := By2.trans (hY2.mono By2.size); have G3 := whole_set (whole_set (whole_set (whole_set (whole_set Yn 0 (.int .i64 7)) 1 (.int .i64 0)) 2 (.int .i64 0)) 3 (.int .i64 0)) 4 (.slice ra l.length rc); have F3 := Hid.mk' (below_set5 (rb := y1.heap.size) By3 By.size (.int .i64 7) (.int .i64 0) (.int .i64 0) (.int .i64 0) (.slice ra l.length rc)); have N3 := Hid.mk' (Ns.of (owns_set5 (rb := y1.heap.size) hrow (fun q hq => by have := (hrow.lt q hq).1; simp at this; omega) (.int .i64 7) (.int .i64 0) (.int .i64 0) (.int .i64 0) (.slice ra l.length rc))))
        | (go_at_call 7; refine (sub_shut (w := y1) (HS4.out.below By) (by omega) hn12 hN1 hN8 hsn hs1 HC.out).mono ?_; rintro e y2 ⟨av, l, ra, rc, hav, hl, rfl, hrow, hY2⟩; have HLl := Hid.mk' hl; clear hl; have hvv := whole_lt Yv; have Yw := (hY2.block _ hvv).trans Yv; have z0 := whole_frozen Yw 0; have z1 := whole_frozen Yw 1; have z2 := whole_frozen Yw 2; have z3 := whole_frozen Yw 3; have z4 := whole_frozen Yw 4; have j0 := whole_cell Yw 0; have j1 := whole_cell Yw 1; have j2 := whole_cell Yw 2; have j3 := whole_cell Yw 3; have j4 := whole_cell Yw 4; simp at j0 j1 j2 j3 j4; have By3 : Below x4.heap.size x4 y2 := By.trans (hY2.mono By.size); have G3 := whole_set (whole_set (whole_set (whole_set (whole_set Yw 0 (.int .i64 7)) 1 (.int .i64 0)) 2 (.int .i64 0)) 3 (.int .i64 0)) 4 (.slice ra l.length rc); have F3 := Hid.mk' (below_set5 (rb := x4.heap.size) By3 (Nat.le_refl _) (.int .i64 7) (.int .i64 0) (.int .i64 0) (.int .i64 0) (.slice ra l.length rc)); have N3 := Hid.mk' (Ns.of (owns_set5 (rb := x4.heap.size) hrow (fun q hq => by have := (hrow.lt q hq).1; omega) (.int .i64 7) (.int .i64 0) (.int .i64 0) (.int .i64 0) (.slice ra l.length rc))))
        | (go_at_call 7; refine (sub_shut (w := y1) (HS4.out.below By) (by omega) hn12 hN1 hN8 hsn hs1 HC.out).mono ?_; rintro e y2 ⟨av, l, ra, rc, hav, hl, rfl, hrow, hY2⟩; have HLl := Hid.mk' hl; clear hl; have By3 : Below x4.heap.size x4 y2 := By.trans (hY2.mono By.size); have G3 := whole_new y2 (.cells #[.int .i64 7, .int .i64 0, .int .i64 0, .int .i64 0, .slice ra l.length rc] 30 (0, 0)); have F3 := Hid.mk' (By3.alloc By3.size (.cells #[.int .i64 7, .int .i64 0, .int .i64 0, .int .i64 0, .slice ra l.length rc] 30)); have N3 := Hid.mk' (Ns.of (hrow.alloc (.cells #[.int .i64 7, .int .i64 0, .int .i64 0, .int .i64 0, .slice ra l.length rc] 30)))))
      all_goals
        go_wp2_with fail
        go_meet
        case rel => exact ⟨_, _, _, _, _, rfl, hav, HLl, G3, F3, N3⟩
    case rest =>
      obtain ⟨vb, ra, rc, l, av, rfl, hav, HLl, G, HF, HNs⟩ := hcut
      rename World => y3
      have g0 := whole_cell G 0; have g1 := whole_cell G 1; have g2 := whole_cell G 2; have g3 := whole_cell G 3; have g4 := whole_cell G 4
      simp at g0 g1 g2 g3 g4
      have hz0 : (n : Int) ≠ 0 := by omega
      obtain ⟨sm, hsm⟩ : ∃ sm, sm = s % n := ⟨_, rfl⟩
      have hsm12 : sm < n := by rw [hsm]; exact Nat.mod_lt _ (by omega)
      have m1 : (s : Int) % (n : Int) = (sm : Int) := by rw [hsm, Int.natCast_emod]
      obtain ⟨hll, hlk⟩ := ring_next (s := s) (by omega) hn12 hav l HLl.out
      rw [← hsm] at hlk
      have HLK : Hid (∀ i, i < n → l.getD i 0 < n ∧ l.getD ((i + 1) % n) 0 = (l.getD i 0 + sm) % n) := hlk
      have HLL : Hid (l.length = n) := hll
      have HSM : Hid (sm = s % n) := hsm
      have hvl := whole_lt G
      clear hlk hll hsm
      go_upto_region 10 with fail
      go_cut [13] (fun s13 y4 => s13 = .bool true ∧ Hid (Below y3.heap.size y3.drew y4))
      case first =>
        go_region_with (go_at_call 9; refine (rgAround (.slice ra l.length rc) l n sm _ (HNs.out.below (Below.refl _ _).drew) HLL.out hn12 (by omega) HLK.out).mono ?_; rintro e y4 ⟨rfl, hY4⟩)
        all_goals
          go_wp2_with fail
          go_meet
          case rel => exact ⟨rfl, hY4⟩
      case rest =>
        obtain ⟨rfl, HY4⟩ := hcut
        rename World => y4
        have hY4 := HY4.out
        have HF4 : Hid (Below x4.heap.size x4 y4) := HF.out.drew.trans (hY4.mono HF.out.size)
        have G4 := (hY4.block _ hvl).trans G
        have i0 := whole_cell G4 0; have i1 := whole_cell G4 1; have i2 := whole_cell G4 2; have i3 := whole_cell G4 3
        simp at i0 i1 i2 i3
        have c4 := (HF4.out.cell (p := ⟨bw, 0, none⟩) hbl).trans c0
        have hb4 : bw < y4.heap.size := Nat.lt_of_lt_of_le hbl HF4.out.size
        clear g0 g1 g2 g3 g4 hY4 G G4 HNs HF hvl
        go_wp2_with fail
        refine (rgPick c n hc1 hc2 (by omega) (by omega) y4).mono ?_
        rintro e y5 ⟨rfl, rfl⟩
        obtain ⟨z, hz⟩ : ∃ z, z = pickD c % n := ⟨_, rfl⟩
        rw [← hz]
        have hzn : z < n := by rw [hz]; exact Nat.mod_lt _ (by omega)
        clear hz
        go_upto_region 14 with fail
        have Y5 := whole_new y5 (.cells #[.int .i64 0, .int .i64 0, .int .i64 0, .int .i64 0, .slice none 0 0] 30 (0, 0))
        have Bd5 : Below x4.heap.size x4 y5.drew := HF4.out.drew
        have Ba5 : Below x4.heap.size x4 (y5.alloc (.cells #[.int .i64 0, .int .i64 0, .int .i64 0, .int .i64 0, .slice none 0 0] 30)).drew := (HF4.out.alloc HF4.out.size _).drew
        have hzi : (z : Int) < 12 := by omega
        go_cut [15] (fun s15 y6 => ∃ (vb2 : Nat) (gx jx qx : Value) (D2 : Nat → Prop), s15 = .pointer (some ⟨vb2, 0, none⟩) ∧ y6.heap[vb2]? = some (.cells #[.int .i64 0, .int .i64 0, .int .i64 0, .int .i64 (n : Int), .slice none 0 0] 30 (0, 0)) ∧ Hid (SM D2 sy (p1R N n z (circO n s b (z : Int))) gx jx qx y6) ∧ Hid (WoR bw sy N kb y6) ∧ Hid (¬ D2 bw) ∧ Hid (Below x3.heap.size x3 y6) ∧ Hid (∀ k, D2 k → x3.heap.size ≤ k))
        case first =>
          go_region_with (first
            | (go_at_call 8; refine (rgCircle n s b (z : Int) y5.drew (by omega) (by omega) hb1 hb2 (by omega) (by omega)).mono ?_; rintro e yb ⟨rfl, hYb⟩; have By : Below x4.heap.size x4 yb := Bd5.trans (hYb.mono HF4.out.size); have cb := (By.cell (p := ⟨bw, 0, none⟩) hbl).trans c0; have hbb : bw < yb.heap.size := Nat.lt_of_lt_of_le hbl By.size; have Ya := whole_new yb (.cells #[.int .i64 0, .int .i64 0, .int .i64 0, .int .i64 0, .slice none 0 0] 30 (0, 0)); have By2 : Below x4.heap.size x4 (yb.alloc (.cells #[.int .i64 0, .int .i64 0, .int .i64 0, .int .i64 0, .slice none 0 0] 30)) := By.alloc By.size _)
            | (go_at_call 8; refine (rgCircle n s b (z : Int) (y5.alloc (.cells #[.int .i64 0, .int .i64 0, .int .i64 0, .int .i64 0, .slice none 0 0] 30)).drew (by omega) (by omega) hb1 hb2 (by omega) (by omega)).mono ?_; rintro e yb ⟨rfl, hYb⟩; have By : Below x4.heap.size x4 yb := Ba5.trans (hYb.mono (Nat.le_trans HF4.out.size (by simp))); have cb := (By.cell (p := ⟨bw, 0, none⟩) hbl).trans c0; have hbb : bw < yb.heap.size := Nat.lt_of_lt_of_le hbl By.size; have Yv := (hYb.block _ (whole_lt Y5)).trans Y5)
            | (go_at_call 7; refine (sub_open (w := yb.alloc (.cells #[.int .i64 0, .int .i64 0, .int .i64 0, .int .i64 0, .slice none 0 0] 30)) (HS4.out.narrow By2) hzn hn12 hN1 hN8 hsn hs1 HC.out).mono ?_; rintro e y6 ⟨rfl, ⟨g6, j6, q6, S0⟩, K6⟩; have nv : ¬ (((x3.heap.size ≤ yb.heap.size ∧ yb.heap.size ≠ bw) ∧ yb.heap.size < x4.heap.size) ∨ (yb.alloc (.cells #[.int .i64 0, .int .i64 0, .int .i64 0, .int .i64 0, .slice none 0 0] 30)).heap.size ≤ yb.heap.size) := (by have := By.size; simp; omega); have Yn := (K6.block _ nv).trans Ya; have z0 := whole_frozen Yn 0; have z1 := whole_frozen Yn 1; have z2 := whole_frozen Yn 2; have z3 := whole_frozen Yn 3; have z4 := whole_frozen Yn 4; have j0 := whole_cell Yn 0; have j1 := whole_cell Yn 1; have j2 := whole_cell Yn 2; have j3 := whole_cell Yn 3; have j4 := whole_cell Yn 4; simp at j0 j1 j2 j3 j4; have G6 := whole_set (whole_set (whole_set (whole_set (whole_set Yn 0 (.int .i64 0)) 1 (.int .i64 0)) 2 (.int .i64 0)) 3 (.int .i64 (n : Int))) 4 (.slice none 0 0); have S6 := Hid.mk' (SM.set5 S0 nv (.int .i64 0) (.int .i64 0) (.int .i64 0) (.int .i64 (n : Int)) (.slice none 0 0)); have D6 : Hid (¬ (((x3.heap.size ≤ bw ∧ bw ≠ bw) ∧ bw < x4.heap.size) ∨ (yb.alloc (.cells #[.int .i64 0, .int .i64 0, .int .i64 0, .int .i64 0, .slice none 0 0] 30)).heap.size ≤ bw)) := Hid.mk' (by simp; omega); have W6 := Hid.mk' (WoR.set5 (rb := yb.heap.size) ((K6.block _ D6.out).trans ((By2.block _ hbl).trans HW.out)) (by omega) (.int .i64 0) (.int .i64 0) (.int .i64 0) (.int .i64 (n : Int)) (.slice none 0 0)); have E6 : Hid (∀ k, (((x3.heap.size ≤ k ∧ k ≠ bw) ∧ k < x4.heap.size) ∨ (yb.alloc (.cells #[.int .i64 0, .int .i64 0, .int .i64 0, .int .i64 0, .slice none 0 0] 30)).heap.size ≤ k) → x3.heap.size ≤ k) := Hid.mk' (fun k q => by have := HB4.out.size; have := By2.size; rcases q with q | q <;> omega); have B6 := Hid.mk' (below_set5 (rb := yb.heap.size) (below_keep (HB4.out.trans (By2.mono HB4.out.size)) K6 E6.out) (Nat.le_trans HB4.out.size By.size) (.int .i64 0) (.int .i64 0) (.int .i64 0) (.int .i64 (n : Int)) (.slice none 0 0)); have TC := Hid.mk' True.intro)
            | (go_at_call 7; refine (sub_open (w := yb) (HS4.out.narrow By) hzn hn12 hN1 hN8 hsn hs1 HC.out).mono ?_; rintro e y6 ⟨rfl, ⟨g6, j6, q6, S0⟩, K6⟩; have hvv := whole_lt Yv; have nv : ¬ (((x3.heap.size ≤ y5.heap.size ∧ y5.heap.size ≠ bw) ∧ y5.heap.size < x4.heap.size) ∨ yb.heap.size ≤ y5.heap.size) := (by have := HF4.out.size; omega); have Yw := (K6.block _ nv).trans Yv; have z0 := whole_frozen Yw 0; have z1 := whole_frozen Yw 1; have z2 := whole_frozen Yw 2; have z3 := whole_frozen Yw 3; have z4 := whole_frozen Yw 4; have j0 := whole_cell Yw 0; have j1 := whole_cell Yw 1; have j2 := whole_cell Yw 2; have j3 := whole_cell Yw 3; have j4 := whole_cell Yw 4; simp at j0 j1 j2 j3 j4; have G6 := whole_set (whole_set (whole_set (whole_set (whole_set Yw 0 (.int .i64 0)) 1 (.int .i64 0)) 2 (.int .i64 0)) 3 (.int .i64 (n : Int))) 4 (.slice none 0 0); have S6 := Hid.mk' (SM.set5 S0 nv (.int .i64 0) (.int .i64 0) (.int .i64 0) (.int .i64 (n : Int)) (.slice none 0 0)); have D6 : Hid (¬ (((x3.heap.size ≤ bw ∧ bw ≠ bw) ∧ bw < x4.heap.size) ∨ yb.heap.size ≤ bw)) := Hid.mk' (by omega); have W6 := Hid.mk' (WoR.set5 (rb := y5.heap.size) ((K6.block _ D6.out).trans ((By.block _ hbl).trans HW.out)) (by omega) (.int .i64 0) (.int .i64 0) (.int .i64 0) (.int .i64 (n : Int)) (.slice none 0 0)); have E6 : Hid (∀ k, (((x3.heap.size ≤ k ∧ k ≠ bw) ∧ k < x4.heap.size) ∨ yb.heap.size ≤ k) → x3.heap.size ≤ k) := Hid.mk' (fun k q => by have := HB4.out.size; have := By.size; rcases q with q | q <;> omega); have B6 := Hid.mk' (below_set5 (rb := y5.heap.size) (below_keep (HB4.out.trans (By.mono HB4.out.size)) K6 E6.out) (Nat.le_trans HB4.out.size HF4.out.size) (.int .i64 0) (.int .i64 0) (.int .i64 0) (.int .i64 (n : Int)) (.slice none 0 0)); have TA := Hid.mk' True.intro)
            | (go_at_call 7; refine (sub_open (w := yb) (HS4.out.narrow By) hzn hn12 hN1 hN8 hsn hs1 HC.out).mono ?_; rintro e y6 ⟨rfl, ⟨g6, j6, q6, S0⟩, K6⟩; have G6 := whole_new y6 (.cells #[.int .i64 0, .int .i64 0, .int .i64 0, .int .i64 (n : Int), .slice none 0 0] 30 (0, 0)); have S6 := Hid.mk' (S0.below ((Below.refl _ y6).alloc (Nat.le_refl _) (.cells #[.int .i64 0, .int .i64 0, .int .i64 0, .int .i64 (n : Int), .slice none 0 0] 30))); have D6 : Hid (¬ (((x3.heap.size ≤ bw ∧ bw ≠ bw) ∧ bw < x4.heap.size) ∨ yb.heap.size ≤ bw)) := Hid.mk' (by omega); have W6 := Hid.mk' (whole_alloc ((K6.block _ D6.out).trans ((By.block _ hbl).trans HW.out)) (.cells #[.int .i64 0, .int .i64 0, .int .i64 0, .int .i64 (n : Int), .slice none 0 0] 30)); have E6 : Hid (∀ k, (((x3.heap.size ≤ k ∧ k ≠ bw) ∧ k < x4.heap.size) ∨ yb.heap.size ≤ k) → x3.heap.size ≤ k) := Hid.mk' (fun k q => by have := HB4.out.size; have := By.size; rcases q with q | q <;> omega); have Bq := below_keep (HB4.out.trans (By.mono HB4.out.size)) K6 E6.out; have B6 := Hid.mk' (Bq.alloc Bq.size (.cells #[.int .i64 0, .int .i64 0, .int .i64 0, .int .i64 (n : Int), .slice none 0 0] 30)); have TB := Hid.mk' True.intro))
          all_goals
            go_wp2_with fail
            go_meet
            case rel => exact ⟨_, _, _, _, _, rfl, G6, S6, W6, D6, B6, E6⟩
        case rest =>
          obtain ⟨vb2, gx, jx, qx, D2, rfl, G2, H6, HW6, HD6, HB6, HDs⟩ := hcut
          rename World => y6
          have g0 := whole_cell G2 0; have g1 := whole_cell G2 1; have g2 := whole_cell G2 2; have g3 := whole_cell G2 3; have g4 := whole_cell G2 4
          simp at g0 g1 g2 g3 g4
          obtain ⟨hpl, hpst⟩ := p1R_st (N := N) (s := s) (b := b) hzn
          have HPL : Hid ((p1R N n z (circO n s b (z : Int))).js.length = n) := hpl
          have HPS : Hid (∀ i, i < n → ((p1R N n z (circO n s b (z : Int))).js.getD i pj0).st = if i = z then 2 else 0) := hpst
          have hpl2 : (p1R N n z (circO n s b (z : Int))).js.length ≤ 24 := by omega
          obtain ⟨hcl, hcs⟩ := cancel_R (N := N) (b := b) hn12 hzn hsn hs1 HC.out
          have HCL : Hid ((settleF (p2R N n z (circO n s b (z : Int)))).js.length = n) := hcl
          have HCS : Hid (∀ i, i < n → ((settleF (p2R N n z (circO n s b (z : Int)))).js.getD i pj0).st = folS n sm z b i) := by
            intro i hi
            rw [hcs i hi]
            unfold folS nextR
            rw [HSM.out]
          clear hpl hpst hcl hcs
          have c6 := whole_cell HW6.out 0
          simp at c6
          go_wp2_with fail
          go_loopg [16] (n + 1) (fun r x wr => ∃ (i : Nat) (wz : World), wz = wr ∧ i ≤ n ∧ r = n - i + 1 ∧ x = .int .i64 (i : Int) ∧ Hid (Below y6.heap.size y6 wz))
          case atStart => exact ⟨0, _, rfl, Nat.zero_le _, rfl, rfl, Below.refl _ _⟩
          case round =>
            obtain ⟨i, wz, rfl, hi, rfl, rfl, HB⟩ := hrel
            have c7 := (HB.out.cell (p := ⟨bw, 0, none⟩) (whole_lt HW6.out)).trans c6
            by_cases hlt : i < n
            · have hlt' : (i : Int) < (n : Int) := by omega
              have hst := HPS.out i hlt
              have HSP : Hid (statP (p1R N n z (circO n s b (z : Int))) (i : Int) = _) := statP_get (by rw [HPL.out]; exact hlt)
              go_wp2_with fail
              refine (syStatus (H6.out.below HB.out) (i : Int) hpl2).mono ?_
              rintro e y7 ⟨he, hY7⟩
              rw [HSP.out] at he
              change e = .returned (.tuple #[.agg #[.int .i64 (((p1R N n z (circO n s b (z : Int))).js.getD i pj0).st : Int), .int .i64 (((p1R N n z (circO n s b (z : Int))).js.getD i pj0).nd : Int), .int .i64 (((p1R N n z (circO n s b (z : Int))).js.getD i pj0).tm : Int), .int .i64 ((p1R N n z (circO n s b (z : Int))).js.getD i pj0).sa, .int .i64 ((p1R N n z (circO n s b (z : Int))).js.getD i pj0).en], .int .i64 0]) at he
              have HBn : ∀ (cs : Array Value) (t : TypeId), Hid (Below y6.heap.size y6 (y7.alloc (.cells cs t))) := fun cs t => (HB.out.trans (hY7.mono HB.out.size)).alloc (Nat.le_trans HB.out.size hY7.size) _
              clear hY7 HSP
              generalize ((p1R N n z (circO n s b (z : Int))).js.getD i pj0).nd = d1 at he
              generalize ((p1R N n z (circO n s b (z : Int))).js.getD i pj0).tm = d2 at he
              generalize ((p1R N n z (circO n s b (z : Int))).js.getD i pj0).sa = d3 at he
              generalize ((p1R N n z (circO n s b (z : Int))).js.getD i pj0).en = d4 at he
              generalize ((p1R N n z (circO n s b (z : Int))).js.getD i pj0).st = st at he hst
              by_cases e1 : (i : Int) = (z : Int)
              · have hs5 : st = 2 := by rw [hst, if_pos (by omega)]
                have e1' : ((i : Int) == (z : Int)) = true := by simpa using e1
                have e1n : ((i : Int) != (z : Int)) = false := by simpa using e1
                clear hst
                rw [hs5] at he
                subst he
                go_wp2_with fail
                go_roundg (n - (i + 1) + 1)
                case measure => omega
                case rel => exact ⟨i + 1, _, rfl, by omega, rfl, by go_num, HBn _ _⟩
              · have hs5 : st = 0 := by rw [hst, if_neg (by omega)]
                have e1' : ((i : Int) == (z : Int)) = false := by simpa using e1
                have e1n : ((i : Int) != (z : Int)) = true := by simpa using e1
                have e1m : ¬ i = z := by omega
                clear hst
                rw [hs5] at he
                subst he
                go_wp2_with fail
                go_roundg (n - (i + 1) + 1)
                case measure => omega
                case rel => exact ⟨i + 1, _, rfl, by omega, rfl, by go_num, HBn _ _⟩
            · have hlt' : ¬ (i : Int) < (n : Int) := by omega
              go_wp2_with fail
              refine (can_R (H6.out.below HB.out) hzn hn12 hN8).mono ?_
              rintro e y8 ⟨rfl, ⟨q8, h8⟩, k8⟩
              have H8 : Hid (SM D2 sy (settleF (p2R N n z (circO n s b (z : Int)))) gx jx q8 y8) := h8
              have HW8 : Hid (WoR bw sy N kb y8) := (k8.block _ HD6.out).trans ((HB.out.block _ (whole_lt HW6.out)).trans HW6.out)
              have HBx : Hid (Below x3.heap.size x3 wz) := HB6.out.trans (HB.out.mono HB6.out.size)
              have HB8 : Hid (Below x3.heap.size x3 y8) := ⟨k8.os.trans HBx.out.os, k8.tape.trans HBx.out.tape, k8.output.trans HBx.out.output, Nat.le_trans HBx.out.size k8.size, fun k hk => (k8.block k (fun q => by have := HDs.out k q; omega)).trans (HBx.out.block k hk)⟩
              clear h8 k8
              go_wp2_with fail
              refine (rgFollows bw sy N kb n sm z b _ HW8.out H8.out hn12 (by omega) (Or.inl hsm12) hzn hb1 hb2 HCL.out HCS.out).mono ?_
              rintro e y9 ⟨rfl, hY9⟩
              have HB9 : Hid (Below x3.heap.size x3 y9) := HB8.out.trans (hY9.mono HB8.out.size)
              go_wp2_with fail
              go_ret
              exact ⟨rfl, HB9.out⟩
end Go.Proofs.Ytanknpmojblmcab
