/-
  The machine's run; areStates; Run and Exec.
-/
import Derived.Test.YtanknpmojblmcaaXRun
set_option linter.unusedSimpArgs false
set_option linter.unusedVariables false
namespace Go.Proofs.Ytanknpmojblmcaa
open Go.RowKit

theorem drop_T (T : ByteArray) (k : Nat) (h : k < T.size) : T.data.toList.drop k = T[k] :: T.data.toList.drop (k + 1) := by
  have h' : k < T.data.toList.length := by simpa using h
  rw [List.drop_eq_getElem_cons h']
  rfl

set_option maxHeartbeats 2000000 in
theorem run_any (b : Nat) (T : ByteArray) (u : Value) (ns : List Int) (m0 : List Nat × Nat × Bool) (w : World) (h : MS b m0 w) (hu : IntsB b u ns w) (hT : T.size ≤ 8000) :
    Calls Try.prog 29 #[.pointer (some ⟨b, 0, none⟩), .string T, u] w fun e w' => e = .returned (.tuple #[]) ∧ MS b (runM ns T.data.toList m0) w' ∧ Below b w w' := by
  have hlen : T.data.toList.length = T.size := by simp
  go_enter Try.func29, Try.ntmps29
  go_wp2_with fail
  go_loopg [6] (T.size + 1) (fun r x wr => ∃ (k : Nat) (m : List Nat × Nat × Bool), k ≤ T.size ∧ r = T.size - k + 1 ∧ x = .int .i64 (k : Int) ∧ MS b m wr ∧ Below b w wr ∧ Hid (runM ns (T.data.toList.drop k) m = runM ns T.data.toList m0))
  case atStart => exact ⟨0, m0, Nat.zero_le _, rfl, rfl, h, Below.refl b w, rfl⟩
  case round =>
    obtain ⟨k, m, hk, rfl, rfl, hm, hB, HR⟩ := hrel
    obtain ⟨S, a, br⟩ := m
    have hu1 := hu.kept hB
    have HM : Hid (MS b (S, a, br) wr) := hm
    obtain ⟨pa, pc, h1, -⟩ := hm
    have q2 := h1.c2; have z2 := h1.z 2
    dsimp only at q2
    clear h1
    by_cases hlt : k < T.size
    · have hlt' : (k : Int) < (T.size : Int) := by omega
      have HD : Hid (T.data.toList.drop k = T[k] :: T.data.toList.drop (k + 1)) := drop_T T k hlt
      cases br with
      | true =>
        go_wp2_with fail
        go_end0
        rw [HR.out.symm, runM_broken]
        exact ⟨rfl, HM.out, hB⟩
      | false =>
        have hop := T[k].toNat_lt
        go_wp2_with fail
        refine (asksJob_any T[k].toNat hop _).mono ?_
        rintro e w1 ⟨rfl, hw1⟩
        subst hw1
        cases hab : asksB T[k].toNat with
        | false =>
          have HN : Hid (runM ns (T.data.toList.drop (k + 1)) (plainM T[k].toNat (S, a, false)) = runM ns T.data.toList m0) := by
            show _ = _
            rw [← HR.out, HD.out, runM_plain _ _ _ _ _ (by simp [hab])]
          go_wp2_with fail
          refine (plain_any b T[k].toNat (S, a, false) _ HM.out).mono ?_
          rintro e w2 ⟨rfl, hm2, hB2⟩
          go_wp2_with fail
          go_roundg (T.size - (k + 1) + 1)
          case measure => omega
          case rel => exact ⟨k + 1, _, by omega, rfl, by go_num, hm2, hB.trans hB2, HN⟩
        | true =>
          have ho : 1 ≤ T[k].toNat ∧ T[k].toNat ≤ 4 := by simpa [asksB] using hab
          by_cases hl2 : k + 1 < T.size
          · have hl2' : ((k : Int) + 1) < (T.size : Int) := by omega
            have hl2'' : decide ((T.size : Int) ≤ (k : Int) + 1) = false := by simp; omega
            have HD2 : Hid (T.data.toList.drop (k + 1) = T[k + 1] :: T.data.toList.drop (k + 2)) := drop_T T (k + 1) hl2
            have HN : Hid (runM ns (T.data.toList.drop (k + 2)) (askM ns T[k].toNat T[k + 1].toNat (S, a, false)) = runM ns T.data.toList m0) := by
              show _ = _
              rw [← HR.out, HD.out, HD2.out, runM_ask _ _ _ _ _ _ hab]
            have hj := T[k + 1].toNat_lt
            clear hab
            go_wp2_with fail
            refine (ask_any b T[k].toNat T[k + 1].toNat u ns (S, a, false) _ HM.out hu1 ho.1 ho.2 hj).mono ?_
            rintro e w2 ⟨rfl, hm2, hB2⟩
            go_wp2_with fail
            go_roundg (T.size - (k + 2) + 1)
            case measure => omega
            case rel => exact ⟨k + 2, _, by omega, rfl, by go_num, hm2, hB.trans hB2, HN⟩
          · have hl2' : (T.size : Int) ≤ (k : Int) + 1 := by omega
            have HN : Hid (runM ns T.data.toList m0 = (S, a, true)) := by
              show _ = _
              rw [← HR.out, HD.out, List.drop_eq_nil_of_le (by omega), runM_lack _ _ _ _ hab]
            clear hab
            go_wp2_with fail
            (try simp only [Exit.inBlock, Exit.then]); refine bodyPost_ret (results_none rfl _ _ _) rfl ?_
            rw [HN.out]
            exact ⟨rfl, HM.out.fail, hB.setCell (Nat.le_refl _) _⟩
    · have hlt' : decide ((k : Int) < (T.size : Int)) = false := by simp; omega
      have HN : Hid (runM ns T.data.toList m0 = (S, a, br)) := by
        show _ = _
        rw [← HR.out, List.drop_eq_nil_of_le (by omega)]
        rfl
      go_wp2_with fail
      go_end0
      rw [HN.out]
      exact ⟨rfl, HM.out, hB⟩

def okS (s : Int) : Bool := decide (0 ≤ s) && decide (s ≤ 6)
theorem areS_no {ns : List Int} {k : Nat} (hk : k < ns.length) (h : ns[k] < 0 ∨ 6 < ns[k]) : areS ns = false := by
  have : ns.all (fun s => decide (0 ≤ s) && decide (s ≤ 6)) = false := by
    rw [List.all_eq_false]
    exact ⟨ns[k], List.getElem_mem hk, by simp; omega⟩
  simp [areS, this]
theorem areS_yes {ns : List Int} (hl : ns.length ≤ 24) (h : ∀ k (hk : k < ns.length), 0 ≤ ns[k] ∧ ns[k] ≤ 6) : areS ns = true := by
  simp only [areS, Bool.and_eq_true, decide_eq_true_eq, List.all_eq_true]
  refine ⟨hl, ?_⟩
  intro s hs
  obtain ⟨k, hk, rfl⟩ := List.getElem_of_mem hs
  exact h k hk

set_option maxHeartbeats 2000000 in
theorem areStates_any (N : Nat) (u : Value) (ns : List Int) (w : World) (hu : IntsB N u ns w) :
    Calls Try.prog 30 #[u] w fun e w' => e = .returned (.bool (areS ns)) ∧ w' = w := by
  rcases hu with ⟨rfl, rfl⟩ | ⟨g, cap, rfl, hc, hg, hcell⟩
  · go_enter Try.func30, Try.ntmps30
    go_wp2_with fail
    go_loopg [10] 1 (fun r x wr => r = 1 ∧ x = .int .i64 0 ∧ wr = w)
    case atStart => exact ⟨rfl, rfl, rfl⟩
    case round =>
      obtain ⟨rfl, rfl, rfl⟩ := hrel
      go_wp2_with fail
      go_ret
      exact ⟨rfl, rfl⟩
  · by_cases hb : 24 < ns.length
    · have hb' : (24 : Int) < (ns.length : Int) := by omega
      have HA : Hid (areS ns = false) := by show areS ns = false; simp [areS]; omega
      clear hb hcell
      go_enter Try.func30, Try.ntmps30
      go_wp2_with fail
      go_ret
      rw [HA.out]
      exact ⟨rfl, rfl⟩
    · have hb' : decide ((24 : Int) < (ns.length : Int)) = false := by simp; omega
      have HC : Hid _ := hcell
      clear hcell
      go_enter Try.func30, Try.ntmps30
      go_wp2_with fail
      go_loopg [10] (ns.length + 1) (fun r x wr => ∃ k : Nat, k ≤ ns.length ∧ r = ns.length - k + 1 ∧ x = .int .i64 (k : Int) ∧ wr = w ∧ Hid (∀ i (hi : i < ns.length), i < k → 0 ≤ ns[i] ∧ ns[i] ≤ 6))
      case atStart => exact ⟨0, Nat.zero_le _, rfl, rfl, rfl, fun i hi h0 => by omega⟩
      case round =>
        obtain ⟨k, hk, rfl, rfl, rfl, HI⟩ := hrel
        by_cases hlt : k < ns.length
        · have hlt' : (k : Int) < (ns.length : Int) := by omega
          have ck := HC.out k hlt
          by_cases hn : ns[k] < 0
          · have HA : Hid (areS ns = false) := areS_no hlt (Or.inl hn)
            generalize ns[k] = s at *
            go_wp2_with fail
            go_ret
            rw [HA.out]
            exact ⟨rfl, rfl⟩
          · have hn' : decide (ns[k] < 0) = false := by simp; omega
            by_cases hn6 : 6 < ns[k]
            · have HA : Hid (areS ns = false) := areS_no hlt (Or.inr hn6)
              generalize ns[k] = s at *
              go_wp2_with fail
              go_ret
              rw [HA.out]
              exact ⟨rfl, rfl⟩
            · have hn6' : decide (6 < ns[k]) = false := by simp; omega
              have HI2 : Hid (∀ i (hi : i < ns.length), i < k + 1 → 0 ≤ ns[i] ∧ ns[i] ≤ 6) := by
                intro i hi hi2
                by_cases hik : i = k
                · subst hik; omega
                · exact HI.out i hi (by omega)
              clear hn hn6
              generalize ns[k] = s at *
              go_wp2_with fail
              go_roundg (ns.length - (k + 1) + 1)
              case measure => omega
              case rel => exact ⟨k + 1, by omega, rfl, by go_num, rfl, HI2⟩
        · have hlt' : decide ((k : Int) < (ns.length : Int)) = false := by simp; omega
          have HA : Hid (areS ns = true) := areS_yes (by omega) (fun i hi => HI.out i hi (by omega))
          go_wp2_with fail
          go_ret
          rw [HA.out]
          exact ⟨rfl, rfl⟩

theorem runE_code {L : List UInt8} {ns : List Int} (h : 8000 < L.length ∨ (runM ns L ([], 0, false)).2.2 = true ∨ (runM ns L ([], 0, false)).1.length ≠ 1) : runE L ns = (0, 9) := by
  unfold runE
  by_cases h0 : 8000 < L.length
  · rw [if_pos h0]
  · rw [if_neg h0, if_pos (h.resolve_left h0)]
theorem runE_arg {L : List UInt8} {ns : List Int} (h0 : L.length ≤ 8000) (h1 : (runM ns L ([], 0, false)).2.2 = false) (h2 : (runM ns L ([], 0, false)).1.length = 1) (h : ns.length < (runM ns L ([], 0, false)).2.1 ∨ areS ns = false) : runE L ns = (0, 10) := by
  unfold runE
  rw [if_neg (by omega), if_neg (by rw [h1, h2]; simp), if_pos h]
theorem runE_ok {L : List UInt8} {ns : List Int} (h0 : L.length ≤ 8000) (h1 : (runM ns L ([], 0, false)).2.2 = false) (h2 : (runM ns L ([], 0, false)).1.length = 1) (h3 : (runM ns L ([], 0, false)).2.1 ≤ ns.length) (h4 : areS ns = true) : runE L ns = ((runM ns L ([], 0, false)).1.getD 0 0, 0) := by
  unfold runE
  rw [if_neg (by omega), if_neg (by rw [h1, h2]; simp), if_neg (by rw [h4]; simp; omega)]

set_option maxHeartbeats 2000000 in
theorem Run_any (T : ByteArray) (u : Value) (ns : List Int) (w : World) (hu : IntsB w.heap.size u ns w) (hT : T.size ≤ maxLen) :
    Calls Try.prog 19 #[.string T, u] w fun e w' => e = .returned (.tuple #[.int .i64 ((runE T.data.toList ns).1 : Int), .int .i64 ((runE T.data.toList ns).2 : Int)]) ∧ Below w.heap.size w w' := by
  have hlen : T.data.toList.length = T.size := by simp
  unfold maxLen at hT
  by_cases hb : 8000 < T.size
  · have hb' : (8000 : Int) < (T.size : Int) := by omega
    have HE : Hid (runE T.data.toList ns = (0, 9)) := runE_code (Or.inl (by omega))
    go_enter Try.func19, Try.ntmps19
    go_wp2_with fail
    go_ret2
    rw [HE.out]
    exact ⟨rfl, Below.refl _ _⟩
  · have hb' : decide ((8000 : Int) < (T.size : Int)) = false := by simp; omega
    obtain ⟨ua, uc, rfl⟩ := hu.form
    go_enter Try.func19, Try.ntmps19
    go_wp2_with fail
    have M0 : MS w.heap.size ([], 0, false) (w.alloc (.cells #[.slice none 0 0, .int .i64 0, .bool false] 76)) :=
      ⟨none, 0, whole_new w _, World.ownsRow_nil _ _ _ _, by simp, by simp⟩
    have B0 : Below w.heap.size w (w.alloc (.cells #[.slice none 0 0, .int .i64 0, .bool false] 76)) := (Below.refl _ w).alloc (Nat.le_refl _) _
    refine (run_any w.heap.size T _ ns ([], 0, false) _ M0 (hu.kept B0) (by omega)).mono ?_
    rintro e w1 ⟨rfl, hm, hB⟩
    replace hB := B0.trans hB
    have hu1 := hu.kept hB
    have Hcode : Hid ((runM ns T.data.toList ([], 0, false)).2.2 = true ∨ (runM ns T.data.toList ([], 0, false)).1.length ≠ 1 → runE T.data.toList ns = (0, 9)) := fun z => runE_code (Or.inr z)
    have Harg : Hid ((runM ns T.data.toList ([], 0, false)).2.2 = false → (runM ns T.data.toList ([], 0, false)).1.length = 1 → ns.length < (runM ns T.data.toList ([], 0, false)).2.1 ∨ areS ns = false → runE T.data.toList ns = (0, 10)) := fun z1 z2 z3 => runE_arg (by omega) z1 z2 z3
    have Hok : Hid ((runM ns T.data.toList ([], 0, false)).2.2 = false → (runM ns T.data.toList ([], 0, false)).1.length = 1 → (runM ns T.data.toList ([], 0, false)).2.1 ≤ ns.length → areS ns = true → runE T.data.toList ns = ((runM ns T.data.toList ([], 0, false)).1.getD 0 0, 0)) := fun z1 z2 z3 z4 => runE_ok (by omega) z1 z2 z3 z4
    generalize runM ns T.data.toList ([], 0, false) = m at *
    obtain ⟨S, a, br⟩ := m
    dsimp only at Hcode Harg Hok
    obtain ⟨pa, pc, h1, hown, hl, hv⟩ := hm
    have q0 := h1.c0; have q1 := h1.c1; have q2 := h1.c2
    dsimp only at q0 q1 q2 hown hl
    clear h1 M0 B0
    cases br with
    | true =>
      have HE : Hid (runE T.data.toList ns = (0, 9)) := Hcode.out (Or.inl rfl)
      go_wp2_with fail
      go_ret2
      rw [HE.out]
      exact ⟨rfl, hB⟩
    | false =>
      by_cases hS : S.length = 1
      · obtain ⟨s, rfl⟩ : ∃ s, S = [s] := List.length_eq_one_iff.1 hS
        have hown1 : w1.ownsRow (w.heap.size + 1) 3 1 (.slice pa 1 pc) 1 [vI s] := hown
        obtain ⟨g, rfl⟩ : ∃ g, pa = some ⟨g, 0, none⟩ := by
          rcases hown1.2 with ⟨hq, _⟩ | ⟨g, cap, cur, hq, _⟩
          · cases hq
          · cases hq; exact ⟨g, rfl⟩
        have cs := row_cellI hown1 0 (by omega)
        simp [vI] at cs
        have hcap : 1 ≤ pc := by
          rcases hown1.2 with ⟨hq, _⟩ | ⟨g, cap, cur, hq, _, _, hh, _⟩
          · cases hq
          · cases hq; exact hh
        simp only [List.length_cons, List.length_nil, Nat.zero_add] at q0
        clear hown hown1
        by_cases ha : ns.length < a
        · have HE : Hid (runE T.data.toList ns = (0, 10)) := Harg.out rfl rfl (Or.inl ha)
          have ha' : (ns.length : Int) < (a : Int) := by omega
          go_wp2_with fail
          go_ret2
          rw [HE.out]
          exact ⟨rfl, hB⟩
        · have ha' : decide ((ns.length : Int) < (a : Int)) = false := by simp; omega
          go_wp2_with fail
          refine (areStates_any w.heap.size _ ns _ hu1).mono ?_
          rintro e w2 ⟨rfl, hw2⟩
          subst hw2
          cases hA : areS ns with
          | false =>
            have HE : Hid (runE T.data.toList ns = (0, 10)) := Harg.out (by trivial) (by simp) (Or.inr hA)
            clear hA
            go_wp2_with fail
            go_ret2
            rw [HE.out]
            exact ⟨rfl, hB⟩
          | true =>
            have HE : Hid (runE T.data.toList ns = (s, 0)) := Hok.out (by trivial) (by simp) (by omega) hA
            clear hA
            go_wp2_with fail
            go_ret2
            rw [HE.out]
            exact ⟨rfl, hB⟩
      · have HE : Hid (runE T.data.toList ns = (0, 9)) := Hcode.out (Or.inr hS)
        have hS' : ((S.length : Int) != 1) = true := by rw [bne_iff_ne]; omega
        go_wp2_with fail
        go_ret2
        rw [HE.out]
        exact ⟨rfl, hB⟩

set_option maxHeartbeats 400000 in
theorem Exec_any (T : ByteArray) (u : Value) (ns : List Int) (w : World) (hu : IntsB w.heap.size u ns w) (hT : T.size ≤ maxLen) :
    Calls Try.prog 11 #[.string T, u] w fun e w' => e = .returned (.tuple #[.int .i64 ((runE T.data.toList ns).1 : Int), .int .i64 ((runE T.data.toList ns).2 : Int)]) ∧ Below w.heap.size w w' := by
  go_enter Try.func11, Try.ntmps11
  go_wp2_with fail
  refine (Run_any T u ns _ hu hT).mono ?_
  rintro e w1 ⟨rfl, hB⟩
  go_wp2_with fail
  go_ret2
  exact ⟨rfl, hB⟩

end Go.Proofs.Ytanknpmojblmcaa
