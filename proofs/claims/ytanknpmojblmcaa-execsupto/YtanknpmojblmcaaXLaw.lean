/-
  The document's Exec; the law's states and sameInts.
-/
import Derived.Test.YtanknpmojblmcaaXLeft
set_option linter.unusedSimpArgs false
set_option linter.unusedVariables false
namespace Go.Proofs.Ytanknpmojblmcaa
open Go.RowKit

theorem refE_long {L : List UInt8} {ns : List Int} (h : 8000 < L.length) : refE L ns = (0, 9) := by unfold refE; rw [if_pos h]
theorem refE_none {L : List UInt8} {ns : List Int} (h : ¬ 8000 < L.length) (h1 : opsR L = none) : refE L ns = (0, 9) := by unfold refE; rw [if_neg h, h1]
theorem refE_un {L : List UInt8} {ns : List Int} {l : List (Nat × Nat)} (h : ¬ 8000 < L.length) (h1 : opsR L = some l) (h2 : ¬ finR l 0 = some 1) : refE L ns = (0, 9) := by
  unfold refE; rw [if_neg h, h1]; dsimp only; rw [if_pos h2]
theorem refE_st {L : List UInt8} {ns : List Int} {l : List (Nat × Nat)} (h : ¬ 8000 < L.length) (h1 : opsR L = some l) (h2 : finR l 0 = some 1) (h3 : areS ns = false) : refE L ns = (0, 10) := by
  unfold refE; rw [if_neg h, h1]; dsimp only; rw [if_neg (by simp [h2]), if_pos h3]
theorem refE_job {L : List UInt8} {ns : List Int} {l : List (Nat × Nat)} (h : ¬ 8000 < L.length) (h1 : opsR L = some l) (h2 : finR l 0 = some 1) (h3 : areS ns = true) (h4 : jobsOK l ns.length = false) : refE L ns = (0, 10) := by
  unfold refE; rw [if_neg h, h1]; dsimp only; rw [if_neg (by simp [h2]), if_neg (by simp [h3]), if_pos h4]
theorem refE_ok {L : List UInt8} {ns : List Int} {l : List (Nat × Nat)} (h : ¬ 8000 < L.length) (h1 : opsR L = some l) (h2 : finR l 0 = some 1) (h3 : areS ns = true) (h4 : jobsOK l ns.length = true) : refE L ns = ((stkR (docV ns) l []).getD 0 0, 0) := by
  unfold refE; rw [if_neg h, h1]; dsimp only; rw [if_neg (by simp [h2]), if_neg (by simp [h3]), if_neg (by simp [h4])]
theorem jobs_no {l : List (Nat × Nat)} {n k : Nat} (hk : k < l.length) (h1 : asksB l[k].1 = true) (h2 : ¬ l[k].2 < n) : jobsOK l n = false := by
  unfold jobsOK
  rw [List.all_eq_false]
  exact ⟨l[k], List.getElem_mem hk, by simp [h1]; omega⟩
theorem jobs_yes {l : List (Nat × Nat)} {n : Nat} (h : ∀ k (hk : k < l.length), asksB l[k].1 = true → l[k].2 < n) : jobsOK l n = true := by
  unfold jobsOK
  rw [List.all_eq_true]
  intro x hx
  obtain ⟨k, hk, rfl⟩ := List.getElem_of_mem hx
  cases ha : asksB l[k].1 with
  | false => rfl
  | true => simpa using h k hk ha

set_option maxHeartbeats 4000000 in
theorem refExec_any (T : ByteArray) (u : Value) (ns : List Int) (w : World) (hu : IntsB w.heap.size u ns w) (hT : T.size ≤ maxLen) :
    Calls Try.prog 12 #[.string T, u] w fun e w' => e = .returned (.tuple #[.int .i64 ((refE T.data.toList ns).1 : Int), .int .i64 ((refE T.data.toList ns).2 : Int)]) ∧ Below w.heap.size w w' := by
  have hlen : T.data.toList.length = T.size := by simp
  unfold maxLen at hT
  by_cases hb : 8000 < T.size
  · have hb' : (8000 : Int) < (T.size : Int) := by omega
    have HE : Hid (refE T.data.toList ns = (0, 9)) := refE_long (by omega)
    go_enter Try.func12, Try.ntmps12
    go_wp2_with fail
    go_ret2
    rw [HE.out]
    exact ⟨rfl, Below.refl _ _⟩
  · have hb' : decide ((8000 : Int) < (T.size : Int)) = false := by simp; omega
    have hnl : ¬ 8000 < T.data.toList.length := by omega
    obtain ⟨ua, uc, rfl⟩ := hu.form
    go_enter Try.func12, Try.ntmps12
    go_wp2_with fail
    refine (operations_any T _ (by omega)).mono ?_
    rintro e w1 ⟨hB1, ⟨hno, rfl⟩ | ⟨v, l, hso, hll, rfl, hown⟩⟩
    · have HE : Hid (refE T.data.toList ns = (0, 9)) := refE_none hnl hno
      clear hno
      go_wp2_with fail
      go_ret2
      rw [HE.out]
      exact ⟨rfl, hB1⟩
    · have hins := Insl.of hown
      have H6 : Hid (∀ x ∈ l, x.1 ≤ 6) := ops_six _ _ hso
      clear hown
      go_wp2_with fail
      refine (sound_any _ v l _ hins hll).mono ?_
      rintro e w2 ⟨rfl, hw2⟩
      subst hw2
      by_cases hf : finR l 0 = some 1
      · have hfb : (finR l 0 == some 1) = true := by rw [hf]; rfl
        have Hst : Hid (areS ns = false → refE T.data.toList ns = (0, 10)) := fun z => refE_st hnl hso hf z
        have Hjb : Hid (areS ns = true → jobsOK l ns.length = false → refE T.data.toList ns = (0, 10)) := fun z z' => refE_job hnl hso hf z z'
        have Hok : Hid (areS ns = true → jobsOK l ns.length = true → refE T.data.toList ns = ((stkR (docV ns) l []).getD 0 0, 0)) := fun z z' => refE_ok hnl hso hf z z'
        have HF : Hid (finR l 0 = some 1) := hf
        rw [hfb]
        clear hso hf hfb
        by_cases h24 : 24 < ns.length
        · have h24' : (24 : Int) < (ns.length : Int) := by omega
          have HE : Hid (refE T.data.toList ns = (0, 10)) := Hst.out (by simp [areS]; omega)
          go_wp2_with fail
          go_ret2
          rw [HE.out]
          exact ⟨rfl, hB1⟩
        · have h24' : decide ((24 : Int) < (ns.length : Int)) = false := by simp; omega
          have hu1 := hu.kept hB1
          go_wp2_with fail
          go_loopg [8] (ns.length + 1) (fun r x wr => ∃ k : Nat, k ≤ ns.length ∧ r = ns.length - k + 1 ∧ x = .int .i64 (k : Int) ∧ wr = w2 ∧ Hid (∀ i (hi : i < ns.length), i < k → 0 ≤ ns[i] ∧ ns[i] ≤ 6))
          case atStart => exact ⟨0, Nat.zero_le _, rfl, rfl, rfl, fun i hi h0 => by omega⟩
          case round =>
            obtain ⟨k, hk, rfl, rfl, rfl, HI⟩ := hrel
            by_cases hlt : k < ns.length
            · have hlt' : (k : Int) < (ns.length : Int) := by omega
              rcases hu1 with ⟨_, rfl⟩ | ⟨g, cap, hq, hc, hg, hcell⟩
              · simp at hlt
              cases hq
              have ck := hcell k hlt
              clear hcell
              by_cases hn : ns[k] < 0
              · have HE : Hid (refE T.data.toList ns = (0, 10)) := Hst.out (areS_no hlt (Or.inl hn))
                generalize ns[k] = s at *
                go_wp2_with fail
                go_ret2
                rw [HE.out]
                exact ⟨rfl, hB1⟩
              · have hn' : decide (ns[k] < 0) = false := by simp; omega
                by_cases hn6 : 6 < ns[k]
                · have HE : Hid (refE T.data.toList ns = (0, 10)) := Hst.out (areS_no hlt (Or.inr hn6))
                  generalize ns[k] = s at *
                  go_wp2_with fail
                  go_ret2
                  rw [HE.out]
                  exact ⟨rfl, hB1⟩
                · have hn6' : decide (6 < ns[k]) = false := by simp; omega
                  have HI2 : Hid (∀ i (hi : i < ns.length), i < k + 1 → 0 ≤ ns[i] ∧ ns[i] ≤ 6) := by
                    intro i hi hi2
                    by_cases hik : i = k
                    · subst hik; omega
                    · exact HI.out i hi (by omega)
                  clear hn hn6
                  generalize ns[k] = s at *
                  go_wp2_with fail
                  go_roundg (ns.length - (k + 1) + 1)
                  case measure => omega
                  case rel => exact ⟨k + 1, by omega, rfl, by go_num, rfl, HI2⟩
            · have hlt' : decide ((k : Int) < (ns.length : Int)) = false := by simp; omega
              have HA : Hid (areS ns = true) := areS_yes (by omega) (fun i hi => HI.out i hi (by omega))
              obtain ⟨va, vc, rfl⟩ := hins.form
              clear HI
              go_wp2_with fail
              go_loopg [9] (l.length + 1) (fun r x wr' => ∃ k : Nat, k ≤ l.length ∧ r = l.length - k + 1 ∧ x = .int .i64 (k : Int) ∧ wr' = wr ∧ Hid (∀ i (hi : i < l.length), i < k → asksB l[i].1 = true → l[i].2 < ns.length))
              case atStart => exact ⟨0, Nat.zero_le _, rfl, rfl, rfl, fun i hi h0 => by omega⟩
              case round =>
                obtain ⟨k, hk, rfl, rfl, rfl, HI⟩ := hrel
                by_cases hlt : k < l.length
                · have hlt' : (k : Int) < (l.length : Int) := by omega
                  have hins2 := hins
                  rcases hins2 with ⟨_, rfl⟩ | ⟨g, cap, hq, hc, hg, hcell⟩
                  · simp at hlt
                  cases hq
                  have ck := hcell k hlt
                  obtain ⟨ck0, ck1⟩ := ck
                  clear hcell
                  have HX : Hid (∀ i (hi : i < l.length), i < k + 1 → (i = k → asksB l[i].1 = true → l[i].2 < ns.length) → asksB l[i].1 = true → l[i].2 < ns.length) := by
                    intro i hi h1 h2 h3
                    by_cases hik : i = k
                    · exact h2 hik h3
                    · exact HI.out i hi (by omega) h3
                  cases hab : asksB l[k].1 with
                  | true =>
                    have ho : 1 ≤ l[k].1 ∧ l[k].1 ≤ 4 := by simpa [asksB] using hab
                    have ho1 : (1 : Int) ≤ (l[k].1 : Int) := by omega
                    have ho2 : (l[k].1 : Int) ≤ 4 := by omega
                    by_cases hj : l[k].2 < ns.length
                    · have hj' : decide ((ns.length : Int) ≤ (l[k].2 : Int)) = false := by simp; omega
                      have HI2 : Hid (∀ i (hi : i < l.length), i < k + 1 → asksB l[i].1 = true → l[i].2 < ns.length) := by
                        intro i hi h1 h3
                        exact HX.out i hi h1 (fun e _ => by subst e; exact hj) h3
                      clear hab ho
                      generalize l[k].1 = op at *
                      generalize l[k].2 = j at *
                      go_wp2_with fail
                      go_roundg (l.length - (k + 1) + 1)
                      case measure => omega
                      case rel => exact ⟨k + 1, by omega, rfl, by go_num, rfl, HI2⟩
                    · have hj' : (ns.length : Int) ≤ (l[k].2 : Int) := by omega
                      have HE : Hid (refE T.data.toList ns = (0, 10)) := Hjb.out HA.out (jobs_no hlt hab hj)
                      clear hab ho
                      generalize l[k].1 = op at *
                      generalize l[k].2 = j at *
                      go_wp2_with fail
                      go_ret2
                      rw [HE.out]
                      exact ⟨rfl, hB1⟩
                  | false =>
                    have HI2 : Hid (∀ i (hi : i < l.length), i < k + 1 → asksB l[i].1 = true → l[i].2 < ns.length) := by
                      intro i hi h1 h3
                      exact HX.out i hi h1 (fun e h => by subst e; rw [hab] at h; cases h) h3
                    by_cases h1 : 1 ≤ l[k].1
                    · have ho1 : (1 : Int) ≤ (l[k].1 : Int) := by omega
                      have ho2 : decide ((l[k].1 : Int) ≤ 4) = false := by simp [asksB] at hab; simp; have := hab h1; omega
                      clear hab
                      generalize l[k].1 = op at *
                      generalize l[k].2 = j at *
                      go_wp2_with fail
                      go_roundg (l.length - (k + 1) + 1)
                      case measure => omega
                      case rel => exact ⟨k + 1, by omega, rfl, by go_num, rfl, HI2⟩
                    · have ho1 : decide ((1 : Int) ≤ (l[k].1 : Int)) = false := by simp; omega
                      clear hab
                      generalize l[k].1 = op at *
                      generalize l[k].2 = j at *
                      go_wp2_with fail
                      go_roundg (l.length - (k + 1) + 1)
                      case measure => omega
                      case rel => exact ⟨k + 1, by omega, rfl, by go_num, rfl, HI2⟩
                · have hlt' : decide ((k : Int) < (l.length : Int)) = false := by simp; omega
                  have HJ : Hid (jobsOK l ns.length = true) := jobs_yes (fun i hi => HI.out i hi (by omega))
                  have hlpos : 0 < l.length := by
                    cases l with
                    | nil => have := HF.out; simp [finR] at this
                    | cons x r => simp
                  have el : (l.length : Int) - 1 = ((l.length - 1 : Nat) : Int) := by omega
                  clear HI
                  go_wp2_with fail
                  refine (left_any _ _ l ns wr.heap.size HA.out HJ.out H6.out hll (fun i hi hbb => fin_two (docV ns) l [] 1 HF.out i hi hbb) (l.length - 1) (by omega) wr (Nat.le_refl _) hins (hu1.mono hB1.size)).mono ?_
                  rintro e w2 ⟨a, f, rfl, hf, hst, hB2⟩
                  have HE : Hid (refE T.data.toList ns = (a, 0)) := by
                    show _ = _
                    rw [Hok.out HA.out HJ.out]
                    rw [show l.length - 1 + 1 = l.length from by omega, List.take_length] at hst
                    rw [hst]; rfl
                  clear hst
                  go_wp2_with fail
                  go_ret2
                  rw [HE.out]
                  exact ⟨rfl, hB1.trans (hB2.mono hB1.size)⟩
      · have hfb : (finR l 0 == some 1) = false := by simpa using hf
        have HE : Hid (refE T.data.toList ns = (0, 9)) := refE_un hnl hso hf
        rw [hfb]
        clear hso hf hfb
        go_wp2_with fail
        go_ret2
        rw [HE.out]
        exact ⟨rfl, hB1⟩

end Go.Proofs.Ytanknpmojblmcaa
