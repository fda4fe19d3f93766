/-
  The document's answer: head, a case of it.
-/
import Derived.Test.YtanknpmojblmcaaRefF
set_option linter.unusedSimpArgs false
set_option linter.unusedVariables false
namespace Go.Proofs.Ytanknpmojblmcaa
open Go.RowKit

set_option maxHeartbeats 4000000 in
theorem refhead_nw (T : ByteArray) (f a b pW : Nat) (w : World) (hT : T.size ≤ 600) (hb : b ≤ T.size) (ha : a + 3 ≤ b) (hA : behO T.data.toList a b kArray = none) (hW : behO T.data.toList a b kAfter = some pW) (hok : PlainOK f (cut T.data.toList pW b)) :
    Calls Try.prog 28 #[.string T, .int .i64 (a : Int), .int .i64 (b : Int)] w fun e w' => e = .returned (rvV (rhd T.data.toList f a b)) ∧ Below w.heap.size w w' := by
  have hpl := pastI_le T.data.toList (b - (a + 3)) (a + 3)
  have g1 : (a : Int) + 3 ≤ ((pastI T.data.toList (b - (a + 3)) (a + 3) : Nat) : Int) := by omega
  have g2 : ((pastI T.data.toList (b - (a + 3)) (a + 3) : Nat) : Int) ≤ (T.size : Int) := by omega
  obtain ⟨oN, hN⟩ : ∃ o, behO T.data.toList a b kNodes = o := ⟨_, rfl⟩
  obtain ⟨oT, hTm⟩ : ∃ o, behO T.data.toList a b kTime = o := ⟨_, rfl⟩
  obtain ⟨vN, hvN⟩ : ∃ v, numI T.data.toList oN = v := ⟨_, rfl⟩
  obtain ⟨vT, hvT⟩ : ∃ v, numI T.data.toList oT = v := ⟨_, rfl⟩
  have HbN : Hid (∀ p, oN = some p → p ≤ 1000) := by intro p hp; have := behO_le (hN.trans hp); omega
  have HbT : Hid (∀ p, oT = some p → p ≤ 1000) := by intro p hp; have := behO_le (hTm.trans hp); omega
  have HN : Hid _ := hN
  have HTm : Hid _ := hTm
  have HvN : Hid _ := hvN
  have HvT : Hid _ := hvT
  have HA : Hid _ := hA
  have HW : Hid _ := hW
  have hpW := behO_le hW
  have gW : (0 : Int) ≤ (pW : Int) := by omega
  have gW1 : (pW : Int) ≤ (b : Int) := by omega
  have gW2 : (b : Int) ≤ (T.size : Int) := by omega
  have hxs : (T.extract pW b).size ≤ 600 := by simp; omega
  have HCUT : Hid ((T.extract pW b).data.toList = cut T.data.toList pW b) := by show _ = _; rw [bs_extract, bs_list]
  have HOK : Hid _ := hok
  clear hok
  have HRH : Hid (rhd T.data.toList f a b = { name := cut T.data.toList (a + 3) (pastI T.data.toList (b - (a + 3)) (a + 3)), nodes := vN, time := vT, arr := false, lo := 0, hi := 0, after := plainI f (cut T.data.toList pW b), want := cut T.data.toList pW b, nameAt := (a : Int) + 3, nodesAt := oi oN, timeAt := oi oT, arrayAt := (-1), wantAt := (pW : Int) }) := by
    show _ = _
    unfold rhd
    rw [HN.out, HTm.out, HA.out, HW.out, HvN.out, HvT.out]
    rfl
  clear hN hTm hvN hvT hA hW
  go_enter Try.func28, Try.ntmps28
  go_wp2_with fail
  go_region_with (go_at_call 45; refine (past_int T (a + 3) b _ (by omega) _ hT hb (by omega)).mono ?_; rintro e w' ⟨rfl, hw'⟩; subst hw')
  all_goals
    go_wp2_with fail
    refine (beh_of T ⟨#[32, 110, 111, 100, 101, 115, 61]⟩ a b _ rfl oN _ hT hb (by omega) (by decide) HN.out).mono ?_
    rintro e w1 ⟨rfl, hw1⟩
    subst hw1
    go_wp2_with fail
    refine (num_of T oN _ rfl vN HvN.out _ hT HbN.out).mono ?_
    rintro e w1 ⟨rfl, hw1⟩
    subst hw1
    go_wp2_with fail
    refine (beh_of T ⟨#[32, 116, 105, 109, 101, 61]⟩ a b _ rfl oT _ hT hb (by omega) (by decide) HTm.out).mono ?_
    rintro e w1 ⟨rfl, hw1⟩
    subst hw1
    go_wp2_with fail
    refine (num_of T oT _ rfl vT HvT.out _ hT HbT.out).mono ?_
    rintro e w1 ⟨rfl, hw1⟩
    subst hw1
    go_wp2_with fail
    refine (beh_of T ⟨#[32, 97, 114, 114, 97, 121, 61]⟩ a b _ rfl (none) _ hT hb (by omega) (by decide) HA.out).mono ?_
    rintro e w1 ⟨he, hw1⟩
    have he : e = .returned (.int .i64 (-1)) := he
    subst he
    subst hw1
    go_wp2_with fail
    refine (beh_of T ⟨#[32, 97, 102, 116, 101, 114, 61]⟩ a b _ rfl (some pW) _ hT hb (by omega) (by decide) HW.out).mono ?_
    rintro e w1 ⟨he, hw1⟩
    have he : e = .returned (.int .i64 (pW : Int)) := he
    subst he
    subst hw1
    go_wp2_with fail
    refine (Plain_any (T.extract pW b) f _ hxs (by rw [HCUT.out]; exact HOK.out)).mono ?_
    rintro e w1 ⟨rfl, hB1⟩
    rw [HCUT.out]
    have hT2 := new_two w (.cells (rvC rv0) 39) (.cells (rvC { name := cut T.data.toList (a + 3) (pastI T.data.toList (b - (a + 3)) (a + 3)), nodes := vN, time := vT, arr := false, lo := 0, hi := 0, after := [], want := cut T.data.toList pW b, nameAt := (a : Int) + 3, nodesAt := oi oN, timeAt := oi oT, arrayAt := (-1), wantAt := (pW : Int) }) 39)
    have hS2 := size_two w (.cells (rvC rv0) 39) (.cells (rvC { name := cut T.data.toList (a + 3) (pastI T.data.toList (b - (a + 3)) (a + 3)), nodes := vN, time := vT, arr := false, lo := 0, hi := 0, after := [], want := cut T.data.toList pW b, nameAt := (a : Int) + 3, nodesAt := oi oN, timeAt := oi oT, arrayAt := (-1), wantAt := (pW : Int) }) 39)
    rw [bs_extract, bs_extract] at hB1
    replace hB1 : Below (((w.alloc (.cells (rvC rv0) 39)).alloc (.cells (rvC { name := cut T.data.toList (a + 3) (pastI T.data.toList (b - (a + 3)) (a + 3)), nodes := vN, time := vT, arr := false, lo := 0, hi := 0, after := [], want := cut T.data.toList pW b, nameAt := (a : Int) + 3, nodesAt := oi oN, timeAt := oi oT, arrayAt := (-1), wantAt := (pW : Int) }) 39)).drew).heap.size (((w.alloc (.cells (rvC rv0) 39)).alloc (.cells (rvC { name := cut T.data.toList (a + 3) (pastI T.data.toList (b - (a + 3)) (a + 3)), nodes := vN, time := vT, arr := false, lo := 0, hi := 0, after := [], want := cut T.data.toList pW b, nameAt := (a : Int) + 3, nodesAt := oi oN, timeAt := oi oT, arrayAt := (-1), wantAt := (pW : Int) }) 39)).drew) w1 := hB1
    rw [hS2] at hB1
    have hR1 := (hB1.block w.heap.size (by omega)).trans hT2.1
    have hC1 := (hB1.block (w.heap.size + 1) (by omega)).trans hT2.2
    have hB2 : Below w.heap.size w w1 := ((((Below.refl _ _).alloc (Nat.le_refl _) _).alloc (by simp) _).drew).trans (hB1.mono (by omega))
    clear hT2 hS2 hB1
    have k0 := whole_cell hR1 0
    have k1 := whole_cell hR1 1
    have k2 := whole_cell hR1 2
    have k3 := whole_cell hR1 3
    have k4 := whole_cell hR1 4
    have k5 := whole_cell hR1 5
    have k6 := whole_cell hR1 6
    have k7 := whole_cell hR1 7
    have k8 := whole_cell hR1 8
    have k9 := whole_cell hR1 9
    have k10 := whole_cell hR1 10
    have k11 := whole_cell hR1 11
    have k12 := whole_cell hR1 12
    have y0 := whole_frozen hR1 0
    have y1 := whole_frozen hR1 1
    have y2 := whole_frozen hR1 2
    have y3 := whole_frozen hR1 3
    have y4 := whole_frozen hR1 4
    have y5 := whole_frozen hR1 5
    have y6 := whole_frozen hR1 6
    have y7 := whole_frozen hR1 7
    have y8 := whole_frozen hR1 8
    have y9 := whole_frozen hR1 9
    have y10 := whole_frozen hR1 10
    have y11 := whole_frozen hR1 11
    have y12 := whole_frozen hR1 12
    have l0 := whole_cell hC1 0
    have l1 := whole_cell hC1 1
    have l2 := whole_cell hC1 2
    have l3 := whole_cell hC1 3
    have l4 := whole_cell hC1 4
    have l5 := whole_cell hC1 5
    have l6 := whole_cell hC1 6
    have l7 := whole_cell hC1 7
    have l8 := whole_cell hC1 8
    have l9 := whole_cell hC1 9
    have l10 := whole_cell hC1 10
    have l11 := whole_cell hC1 11
    have l12 := whole_cell hC1 12
    have z0 := whole_frozen hC1 0
    have z1 := whole_frozen hC1 1
    have z2 := whole_frozen hC1 2
    have z3 := whole_frozen hC1 3
    have z4 := whole_frozen hC1 4
    have z5 := whole_frozen hC1 5
    have z6 := whole_frozen hC1 6
    have z7 := whole_frozen hC1 7
    have z8 := whole_frozen hC1 8
    have z9 := whole_frozen hC1 9
    have z10 := whole_frozen hC1 10
    have z11 := whole_frozen hC1 11
    have z12 := whole_frozen hC1 12
    simp [rvC, rv0] at k0 k1 k2 k3 k4 k5 k6 k7 k8 k9 k10 k11 k12 l0 l1 l2 l3 l4 l5 l6 l7 l8 l9 l10 l11 l12
    have hRc : w.heap.size + 1 ≠ w.heap.size := by omega
    generalize hcc : w.heap.size + 1 = c at *
    have HC : Hid (w.heap.size + 1 = c) := hcc
    clear hcc
    generalize hRR : w.heap.size = R at *
    have HR : Hid (w.heap.size = R) := hRR
    clear hRR hR1 hC1
    have hR0 : w.heap.size ≤ R := Nat.le_of_eq HR.out
    have hc0 : w.heap.size ≤ c := by have q1 := HC.out; have q2 := HR.out; omega
    go_wp2_with fail
    refine bodyPost_ret (v := rvV (rhd T.data.toList f a b)) ?_ rfl ?_
    · rw [HRH.out]
      simp [results, Try.results28, go_sem, rvV, rvC, k0, k1, k2, k3, k4, k5, k6, k7, k8, k9, k10, k11, k12]
    · refine ⟨rfl, ?_⟩
      iterate 14 refine Below.setCell ?_ (by first | exact hR0 | exact hc0) _
      rw [HR.out]; exact hB2

end Go.Proofs.Ytanknpmojblmcaa
