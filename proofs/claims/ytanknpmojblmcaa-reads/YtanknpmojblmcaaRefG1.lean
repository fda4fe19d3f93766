/-
  The document's answer: head, a case of it.
-/
import Derived.Test.YtanknpmojblmcaaRefF
set_option linter.unusedSimpArgs false
set_option linter.unusedVariables false
namespace Go.Proofs.Ytanknpmojblmcaa
open Go.RowKit

set_option maxHeartbeats 4000000 in
theorem refhead_nn (T : ByteArray) (f a b : Nat) (w : World) (hT : T.size ≤ 600) (hb : b ≤ T.size) (ha : a + 3 ≤ b) (hA : behO T.data.toList a b kArray = none) (hW : behO T.data.toList a b kAfter = none) :
    Calls Try.prog 28 #[.string T, .int .i64 (a : Int), .int .i64 (b : Int)] w fun e w' => e = .returned (rvV (rhd T.data.toList f a b)) ∧ Below w.heap.size w w' := by
  have hpl := pastI_le T.data.toList (b - (a + 3)) (a + 3)
  have g1 : (a : Int) + 3 ≤ ((pastI T.data.toList (b - (a + 3)) (a + 3) : Nat) : Int) := by omega
  have g2 : ((pastI T.data.toList (b - (a + 3)) (a + 3) : Nat) : Int) ≤ (T.size : Int) := by omega
  obtain ⟨oN, hN⟩ : ∃ o, behO T.data.toList a b kNodes = o := ⟨_, rfl⟩
  obtain ⟨oT, hTm⟩ : ∃ o, behO T.data.toList a b kTime = o := ⟨_, rfl⟩
  obtain ⟨vN, hvN⟩ : ∃ v, numI T.data.toList oN = v := ⟨_, rfl⟩
  obtain ⟨vT, hvT⟩ : ∃ v, numI T.data.toList oT = v := ⟨_, rfl⟩
  have HbN : Hid (∀ p, oN = some p → p ≤ 1000) := by intro p hp; have := behO_le (hN.trans hp); omega
  have HbT : Hid (∀ p, oT = some p → p ≤ 1000) := by intro p hp; have := behO_le (hTm.trans hp); omega
  have HN : Hid _ := hN
  have HTm : Hid _ := hTm
  have HvN : Hid _ := hvN
  have HvT : Hid _ := hvT
  have HA : Hid _ := hA
  have HW : Hid _ := hW
  have HRH : Hid (rhd T.data.toList f a b = { name := cut T.data.toList (a + 3) (pastI T.data.toList (b - (a + 3)) (a + 3)), nodes := vN, time := vT, arr := false, lo := 0, hi := 0, after := [], want := [], nameAt := (a : Int) + 3, nodesAt := oi oN, timeAt := oi oT, arrayAt := (-1), wantAt := (-1) }) := by
    show _ = _
    unfold rhd
    rw [HN.out, HTm.out, HA.out, HW.out, HvN.out, HvT.out]
    rfl
  clear hN hTm hvN hvT hA hW
  go_enter Try.func28, Try.ntmps28
  go_wp2_with fail
  go_region_with (go_at_call 45; refine (past_int T (a + 3) b _ (by omega) _ hT hb (by omega)).mono ?_; rintro e w' ⟨rfl, hw'⟩; subst hw')
  all_goals
    go_wp2_with fail
    refine (beh_of T ⟨#[32, 110, 111, 100, 101, 115, 61]⟩ a b _ rfl oN _ hT hb (by omega) (by decide) HN.out).mono ?_
    rintro e w1 ⟨rfl, hw1⟩
    subst hw1
    go_wp2_with fail
    refine (num_of T oN _ rfl vN HvN.out _ hT HbN.out).mono ?_
    rintro e w1 ⟨rfl, hw1⟩
    subst hw1
    go_wp2_with fail
    refine (beh_of T ⟨#[32, 116, 105, 109, 101, 61]⟩ a b _ rfl oT _ hT hb (by omega) (by decide) HTm.out).mono ?_
    rintro e w1 ⟨rfl, hw1⟩
    subst hw1
    go_wp2_with fail
    refine (num_of T oT _ rfl vT HvT.out _ hT HbT.out).mono ?_
    rintro e w1 ⟨rfl, hw1⟩
    subst hw1
    go_wp2_with fail
    refine (beh_of T ⟨#[32, 97, 114, 114, 97, 121, 61]⟩ a b _ rfl (none) _ hT hb (by omega) (by decide) HA.out).mono ?_
    rintro e w1 ⟨he, hw1⟩
    have he : e = .returned (.int .i64 (-1)) := he
    subst he
    subst hw1
    go_wp2_with fail
    refine (beh_of T ⟨#[32, 97, 102, 116, 101, 114, 61]⟩ a b _ rfl (none) _ hT hb (by omega) (by decide) HW.out).mono ?_
    rintro e w1 ⟨he, hw1⟩
    have he : e = .returned (.int .i64 (-1)) := he
    subst he
    subst hw1
    go_wp2_with fail
    refine bodyPost_ret (v := rvV (rhd T.data.toList f a b)) ?_ rfl ?_
    · rw [bs_extract, HRH.out]
      simp [results, Try.results28, go_sem, rvV, rvC, bs]
    · exact ⟨rfl, (((Below.refl _ _).alloc (Nat.le_refl _) _).alloc (by simp) _).drew⟩

end Go.Proofs.Ytanknpmojblmcaa
