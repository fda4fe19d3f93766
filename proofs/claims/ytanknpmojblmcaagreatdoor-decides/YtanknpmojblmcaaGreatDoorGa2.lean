/-
  XRun XRunB PlG PlP PlQ PlH PlI PlJ PlK, put together.
-/
import Derived.Test.YtanknpmojblmcaaGreatDoorGa1
import Derived.Deep.LoopGhost
/-
  The program's machine: ask, plain, run; Run and Exec.
-/
set_option linter.unusedSimpArgs false
set_option linter.unusedVariables false
namespace Go.Proofs.YtanknpmojblmcaaGreatDoor
open Go.RowKit

/-- A slice of numbers that can be read. -/
def Ints (u : Value) (ns : List Int) (w : World) : Prop :=
  (u = .slice none 0 0 ∧ ns = []) ∨ ∃ g cap, u = .slice (some ⟨g, 0, none⟩) ns.length cap ∧ ns.length ≤ cap ∧ g < w.heap.size ∧ ∀ k, (hk : k < ns.length) → w.cell? ⟨g, k, none⟩ = some (.int .i64 ns[k])
/-- and lies below N. -/
def IntsB (N : Nat) (u : Value) (ns : List Int) (w : World) : Prop :=
  (u = .slice none 0 0 ∧ ns = []) ∨ ∃ g cap, u = .slice (some ⟨g, 0, none⟩) ns.length cap ∧ ns.length ≤ cap ∧ g < N ∧ ∀ k, (hk : k < ns.length) → w.cell? ⟨g, k, none⟩ = some (.int .i64 ns[k])
theorem IntsB.kept {N : Nat} {u : Value} {ns : List Int} {w w' : World} (h : IntsB N u ns w) (b : Below N w w') : IntsB N u ns w' := by
  rcases h with h | ⟨g, cap, h1, h2, h3, h4⟩
  · exact Or.inl h
  · exact Or.inr ⟨g, cap, h1, h2, h3, fun k hk => (b.cell h3).trans (h4 k hk)⟩
theorem IntsB.mono {N M : Nat} {u : Value} {ns : List Int} {w : World} (h : IntsB N u ns w) (b : N ≤ M) : IntsB M u ns w := by
  rcases h with h | ⟨g, cap, h1, h2, h3, h4⟩
  · exact Or.inl h
  · exact Or.inr ⟨g, cap, h1, h2, by omega, h4⟩
theorem IntsB.form {N : Nat} {u : Value} {ns : List Int} {w : World} (h : IntsB N u ns w) : ∃ a c, u = .slice a ns.length c := by
  rcases h with ⟨rfl, rfl⟩ | ⟨g, cap, rfl, _⟩
  · exact ⟨_, _, rfl⟩
  · exact ⟨_, _, rfl⟩

set_option maxHeartbeats 1000000 in
theorem ask_any (b op j : Nat) (u : Value) (ns : List Int) (m : List Nat × Nat × Bool) (w : World) (h : MS b m w) (hu : IntsB b u ns w) (hop1 : 1 ≤ op) (hop2 : op ≤ 4) (hj : j < 256) :
    Calls Tryz.prog 139 #[.pointer (some ⟨b, 0, none⟩), .int .i64 (op : Int), .int .i64 (j : Int), u] w fun e w' => e = .returned (.tuple #[]) ∧ MS b (askM ns op j m) w' ∧ Below b w w' := by
  obtain ⟨S, a, br⟩ := m
  have hB0 := Below.refl b w
  have H0 : Hid (MS b (S, a, br) w) := h
  obtain ⟨pa, pc, h1, hown, hl, hv⟩ := h
  have q1 := h1.c1; have q2 := h1.c2; have z1 := h1.z 1; have z2 := h1.z 2
  dsimp only at q1 q2
  clear hown hl hv h1
  by_cases hf : 24 ≤ j
  · have hf' : (24 : Int) ≤ (j : Int) := by omega
    go_enter Tryz.func139, Tryz.ntmps139
    go_wp2_with fail
    (try simp only [Exit.inBlock, Exit.then]); refine bodyPost_ret (results_none rfl _ _ _) rfl ?_
    refine ⟨rfl, ?_, hB0.setCell (Nat.le_refl _) _⟩
    have : askM ns op j (S, a, br) = (S, a, true) := by unfold askM; rw [if_pos hf]
    rw [this]
    exact H0.out.fail
  · have hf' : decide ((24 : Int) ≤ (j : Int)) = false := by simp; omega
    have HL : Hid (askM ns op j (S, a, br) = layM (askV ns op j) (S, askA j a, br)) := by show askM ns op j (S, a, br) = _; unfold askM; rw [if_neg hf]
    -- behind the first two tests the world is w0, with the number set
    have HA : ∃ w0, MS b (S, askA j a, br) w0 ∧ Below b w w0 ∧ ((a ≤ j ∧ w0 = w.setCell ⟨b, 1, none⟩ (.int .i64 ((j : Int) + 1))) ∨ (j < a ∧ w0 = w)) := by
      by_cases ha : a ≤ j
      · refine ⟨_, ?_, hB0.setCell (p := ⟨b, 1, none⟩) (Nat.le_refl _) (.int .i64 ((j : Int) + 1)), Or.inl ⟨ha, rfl⟩⟩
        have : askA j a = j + 1 := by unfold askA; rw [if_pos ha]
        rw [this]
        exact H0.out.asked (by simp)
      · refine ⟨w, ?_, hB0, Or.inr ⟨by omega, rfl⟩⟩
        have : askA j a = a := by unfold askA; rw [if_neg ha]
        rw [this]
        exact H0.out
    obtain ⟨w0, hm0, hB, hw0⟩ := HA
    have hu0 := hu.kept hB
    clear H0 hf hu
    have HM : Hid (MS b (S, askA j a, br) w0) := hm0
    clear hm0
    by_cases hjn : j < ns.length
    · have HV : Hid (askV ns op j = vP op ns[j]) := by
        show askV ns op j = _
        unfold askV; rw [if_pos hjn]; simp [List.getD_eq_getElem?_getD, List.getElem?_eq_getElem hjn]
      rcases hu0 with ⟨rfl, rfl⟩ | ⟨g, cap, rfl, hc, hg, hcell⟩
      · simp at hjn
      have cj := hcell j hjn
      have hjn' : (j : Int) < (ns.length : Int) := by omega
      have hjn2 : decide ((ns.length : Int) ≤ (j : Int)) = false := by simp; omega
      clear hcell
      generalize ns[j] = s at *
      rcases hw0 with ⟨ha, rfl⟩ | ⟨ha, rfl⟩
      · have ha' : (a : Int) ≤ (j : Int) := by omega
        go_enter Tryz.func139, Tryz.ntmps139
        go_wp2_with fail
        refine (ofJob_any op s hop1 hop2 _).mono ?_
        rintro e w1 ⟨rfl, n1, hw1⟩
        subst hw1
        go_wp2_with fail
        refine (lay_any b (vP op s) (S, askA j a, br) _ (HM.out.drewN n1) (vP_le _ _)).mono ?_
        rintro e w1 ⟨rfl, hm, hB1⟩
        go_wp2_with fail
        go_end0
        refine ⟨rfl, ?_, (below_drewN hB n1).trans hB1⟩
        rw [HL.out, HV.out]; exact hm
      · have ha' : decide ((a : Int) ≤ (j : Int)) = false := by simp; omega
        go_enter Tryz.func139, Tryz.ntmps139
        go_wp2_with fail
        refine (ofJob_any op s hop1 hop2 _).mono ?_
        rintro e w1 ⟨rfl, n1, hw1⟩
        subst hw1
        go_wp2_with fail
        refine (lay_any b (vP op s) (S, askA j a, br) _ (HM.out.drewN n1) (vP_le _ _)).mono ?_
        rintro e w1 ⟨rfl, hm, hB1⟩
        go_wp2_with fail
        go_end0
        refine ⟨rfl, ?_, (below_drewN hB n1).trans hB1⟩
        rw [HL.out, HV.out]; exact hm
    · have HV : Hid (askV ns op j = 0) := by show askV ns op j = _; unfold askV; rw [if_neg hjn]
      obtain ⟨pa', pc', rfl⟩ := hu0.form
      have hjn' : (ns.length : Int) ≤ (j : Int) := by omega
      rcases hw0 with ⟨ha, rfl⟩ | ⟨ha, rfl⟩
      · have ha' : (a : Int) ≤ (j : Int) := by omega
        go_enter Tryz.func139, Tryz.ntmps139
        go_wp2_with fail
        refine (lay_any b 0 (S, askA j a, br) _ HM.out (by omega)).mono ?_
        rintro e w1 ⟨rfl, hm, hB1⟩
        go_wp2_with fail
        (try simp only [Exit.inBlock, Exit.then]); refine bodyPost_ret (results_none rfl _ _ _) rfl ?_
        refine ⟨rfl, ?_, hB.trans hB1⟩
        rw [HL.out, HV.out]; exact hm
      · have ha' : decide ((a : Int) ≤ (j : Int)) = false := by simp; omega
        go_enter Tryz.func139, Tryz.ntmps139
        go_wp2_with fail
        refine (lay_any b 0 (S, askA j a, br) _ HM.out (by omega)).mono ?_
        rintro e w1 ⟨rfl, hm, hB1⟩
        go_wp2_with fail
        (try simp only [Exit.inBlock, Exit.then]); refine bodyPost_ret (results_none rfl _ _ _) rfl ?_
        refine ⟨rfl, ?_, hB.trans hB1⟩
        rw [HL.out, HV.out]; exact hm

set_option maxHeartbeats 1000000 in
theorem plain_any (b op : Nat) (m : List Nat × Nat × Bool) (w : World) (h : MS b m w) :
    Calls Tryz.prog 138 #[.pointer (some ⟨b, 0, none⟩), .int .i64 (op : Int)] w fun e w' => e = .returned (.tuple #[]) ∧ MS b (plainM op m) w' ∧ Below b w w' := by
  obtain ⟨S, a, br⟩ := m
  have hB0 := Below.refl b w
  have H0 : Hid (MS b (S, a, br) w) := h
  obtain ⟨pa, pc, h1, hown, hl, hv⟩ := h
  have q2 := h1.c2; have z2 := h1.z 2
  dsimp only at q2
  clear hown hl hv h1
  by_cases h0 : op = 0
  · subst h0
    go_enter Tryz.func138, Tryz.ntmps138
    go_wp2_with fail
    refine (lay_any b 1 (S, a, br) _ H0.out (by omega)).mono ?_
    rintro e w1 ⟨rfl, hm, hB1⟩
    go_wp2_with fail
    go_end0
    exact ⟨rfl, hm, hB1⟩
  · have h0' : ((op : Int) == 0) = false := by rw [beq_eq_false_iff_ne]; omega
    by_cases h5 : op = 5
    · subst h5
      go_enter Tryz.func138, Tryz.ntmps138
      go_wp2_with fail
      refine (join_any b 5 (S, a, br) _ H0.out (Or.inl rfl)).mono ?_
      rintro e w1 ⟨rfl, hm, hB1⟩
      go_wp2_with fail
      go_end0
      exact ⟨rfl, hm, hB1⟩
    · have h5' : ((op : Int) == 5) = false := by rw [beq_eq_false_iff_ne]; omega
      by_cases h6 : op = 6
      · subst h6
        go_enter Tryz.func138, Tryz.ntmps138
        go_wp2_with fail
        refine (join_any b 6 (S, a, br) _ H0.out (Or.inr rfl)).mono ?_
        rintro e w1 ⟨rfl, hm, hB1⟩
        go_wp2_with fail
        go_end0
        exact ⟨rfl, hm, hB1⟩
      · have h6' : ((op : Int) == 6) = false := by rw [beq_eq_false_iff_ne]; omega
        have HL : Hid (plainM op (S, a, br) = (S, a, true)) := by
          show plainM op (S, a, br) = _
          unfold plainM; rw [if_neg h0, if_neg (by omega)]
        clear h0 h5 h6
        go_enter Tryz.func138, Tryz.ntmps138
        go_wp2_with fail
        go_end0
        refine ⟨rfl, ?_, hB0.setCell (Nat.le_refl _) _⟩
        rw [HL.out]
        exact H0.out.fail

end Go.Proofs.YtanknpmojblmcaaGreatDoor

/-
  The machine's run; areStates; Run and Exec.
-/
set_option linter.unusedSimpArgs false
set_option linter.unusedVariables false
namespace Go.Proofs.YtanknpmojblmcaaGreatDoor
open Go.RowKit

theorem drop_T (T : ByteArray) (k : Nat) (h : k < T.size) : T.data.toList.drop k = T[k] :: T.data.toList.drop (k + 1) := by
  have h' : k < T.data.toList.length := by simpa using h
  rw [List.drop_eq_getElem_cons h']
  rfl

set_option maxHeartbeats 2000000 in
theorem run_any (b : Nat) (T : ByteArray) (u : Value) (ns : List Int) (m0 : List Nat × Nat × Bool) (w : World) (h : MS b m0 w) (hu : IntsB b u ns w) (hT : T.size ≤ 8000) :
    Calls Tryz.prog 122 #[.pointer (some ⟨b, 0, none⟩), .string T, u] w fun e w' => e = .returned (.tuple #[]) ∧ MS b (runM ns T.data.toList m0) w' ∧ Below b w w' := by
  have hlen : T.data.toList.length = T.size := by simp
  go_enter Tryz.func122, Tryz.ntmps122
  go_wp2_with fail
  go_loopg [6] (T.size + 1) (fun r x wr => ∃ (k : Nat) (m : List Nat × Nat × Bool), k ≤ T.size ∧ r = T.size - k + 1 ∧ x = .int .i64 (k : Int) ∧ MS b m wr ∧ Below b w wr ∧ Hid (runM ns (T.data.toList.drop k) m = runM ns T.data.toList m0))
  case atStart => exact ⟨0, m0, Nat.zero_le _, rfl, rfl, h, Below.refl b w, rfl⟩
  case round =>
    obtain ⟨k, m, hk, rfl, rfl, hm, hB, HR⟩ := hrel
    obtain ⟨S, a, br⟩ := m
    have hu1 := hu.kept hB
    have HM : Hid (MS b (S, a, br) wr) := hm
    obtain ⟨pa, pc, h1, -⟩ := hm
    have q2 := h1.c2; have z2 := h1.z 2
    dsimp only at q2
    clear h1
    by_cases hlt : k < T.size
    · have hlt' : (k : Int) < (T.size : Int) := by omega
      have HD : Hid (T.data.toList.drop k = T[k] :: T.data.toList.drop (k + 1)) := drop_T T k hlt
      cases br with
      | true =>
        go_wp2_with fail
        go_end0
        rw [HR.out.symm, runM_broken]
        exact ⟨rfl, HM.out, hB⟩
      | false =>
        have hop := T[k].toNat_lt
        go_wp2_with fail
        refine (asksJob_any T[k].toNat hop _).mono ?_
        rintro e w1 ⟨rfl, hw1⟩
        subst hw1
        cases hab : asksB T[k].toNat with
        | false =>
          have HN : Hid (runM ns (T.data.toList.drop (k + 1)) (plainM T[k].toNat (S, a, false)) = runM ns T.data.toList m0) := by
            show _ = _
            rw [← HR.out, HD.out, runM_plain _ _ _ _ _ (by simp [hab])]
          go_wp2_with fail
          refine (plain_any b T[k].toNat (S, a, false) _ HM.out).mono ?_
          rintro e w2 ⟨rfl, hm2, hB2⟩
          go_wp2_with fail
          go_roundg (T.size - (k + 1) + 1)
          case measure => omega
          case rel => exact ⟨k + 1, _, by omega, rfl, by go_num, hm2, hB.trans hB2, HN⟩
        | true =>
          have ho : 1 ≤ T[k].toNat ∧ T[k].toNat ≤ 4 := by simpa [asksB] using hab
          by_cases hl2 : k + 1 < T.size
          · have hl2' : ((k : Int) + 1) < (T.size : Int) := by omega
            have hl2'' : decide ((T.size : Int) ≤ (k : Int) + 1) = false := by simp; omega
            have HD2 : Hid (T.data.toList.drop (k + 1) = T[k + 1] :: T.data.toList.drop (k + 2)) := drop_T T (k + 1) hl2
            have HN : Hid (runM ns (T.data.toList.drop (k + 2)) (askM ns T[k].toNat T[k + 1].toNat (S, a, false)) = runM ns T.data.toList m0) := by
              show _ = _
              rw [← HR.out, HD.out, HD2.out, runM_ask _ _ _ _ _ _ hab]
            have hj := T[k + 1].toNat_lt
            clear hab
            go_wp2_with fail
            refine (ask_any b T[k].toNat T[k + 1].toNat u ns (S, a, false) _ HM.out hu1 ho.1 ho.2 hj).mono ?_
            rintro e w2 ⟨rfl, hm2, hB2⟩
            go_wp2_with fail
            go_roundg (T.size - (k + 2) + 1)
            case measure => omega
            case rel => exact ⟨k + 2, _, by omega, rfl, by go_num, hm2, hB.trans hB2, HN⟩
          · have hl2' : (T.size : Int) ≤ (k : Int) + 1 := by omega
            have HN : Hid (runM ns T.data.toList m0 = (S, a, true)) := by
              show _ = _
              rw [← HR.out, HD.out, List.drop_eq_nil_of_le (by omega), runM_lack _ _ _ _ hab]
            clear hab
            go_wp2_with fail
            (try simp only [Exit.inBlock, Exit.then]); refine bodyPost_ret (results_none rfl _ _ _) rfl ?_
            rw [HN.out]
            exact ⟨rfl, HM.out.fail, hB.setCell (Nat.le_refl _) _⟩
    · have hlt' : decide ((k : Int) < (T.size : Int)) = false := by simp; omega
      have HN : Hid (runM ns T.data.toList m0 = (S, a, br)) := by
        show _ = _
        rw [← HR.out, List.drop_eq_nil_of_le (by omega)]
        rfl
      go_wp2_with fail
      go_end0
      rw [HN.out]
      exact ⟨rfl, HM.out, hB⟩

def okS (s : Int) : Bool := decide (0 ≤ s) && decide (s ≤ 6)
theorem areS_no {ns : List Int} {k : Nat} (hk : k < ns.length) (h : ns[k] < 0 ∨ 6 < ns[k]) : areS ns = false := by
  have : ns.all (fun s => decide (0 ≤ s) && decide (s ≤ 6)) = false := by
    rw [List.all_eq_false]
    exact ⟨ns[k], List.getElem_mem hk, by simp; omega⟩
  simp [areS, this]
theorem areS_yes {ns : List Int} (hl : ns.length ≤ 24) (h : ∀ k (hk : k < ns.length), 0 ≤ ns[k] ∧ ns[k] ≤ 6) : areS ns = true := by
  simp only [areS, Bool.and_eq_true, decide_eq_true_eq, List.all_eq_true]
  refine ⟨hl, ?_⟩
  intro s hs
  obtain ⟨k, hk, rfl⟩ := List.getElem_of_mem hs
  exact h k hk

set_option maxHeartbeats 2000000 in
theorem areStates_any (N : Nat) (u : Value) (ns : List Int) (w : World) (hu : IntsB N u ns w) :
    Calls Tryz.prog 123 #[u] w fun e w' => e = .returned (.bool (areS ns)) ∧ w' = w := by
  rcases hu with ⟨rfl, rfl⟩ | ⟨g, cap, rfl, hc, hg, hcell⟩
  · go_enter Tryz.func123, Tryz.ntmps123
    go_wp2_with fail
    go_loopg [10] 1 (fun r x wr => r = 1 ∧ x = .int .i64 0 ∧ wr = w)
    case atStart => exact ⟨rfl, rfl, rfl⟩
    case round =>
      obtain ⟨rfl, rfl, rfl⟩ := hrel
      go_wp2_with fail
      go_ret
      exact ⟨rfl, rfl⟩
  · by_cases hb : 24 < ns.length
    · have hb' : (24 : Int) < (ns.length : Int) := by omega
      have HA : Hid (areS ns = false) := by show areS ns = false; simp [areS]; omega
      clear hb hcell
      go_enter Tryz.func123, Tryz.ntmps123
      go_wp2_with fail
      go_ret
      rw [HA.out]
      exact ⟨rfl, rfl⟩
    · have hb' : decide ((24 : Int) < (ns.length : Int)) = false := by simp; omega
      have HC : Hid _ := hcell
      clear hcell
      go_enter Tryz.func123, Tryz.ntmps123
      go_wp2_with fail
      go_loopg [10] (ns.length + 1) (fun r x wr => ∃ k : Nat, k ≤ ns.length ∧ r = ns.length - k + 1 ∧ x = .int .i64 (k : Int) ∧ wr = w ∧ Hid (∀ i (hi : i < ns.length), i < k → 0 ≤ ns[i] ∧ ns[i] ≤ 6))
      case atStart => exact ⟨0, Nat.zero_le _, rfl, rfl, rfl, fun i hi h0 => by omega⟩
      case round =>
        obtain ⟨k, hk, rfl, rfl, rfl, HI⟩ := hrel
        by_cases hlt : k < ns.length
        · have hlt' : (k : Int) < (ns.length : Int) := by omega
          have ck := HC.out k hlt
          by_cases hn : ns[k] < 0
          · have HA : Hid (areS ns = false) := areS_no hlt (Or.inl hn)
            generalize ns[k] = s at *
            go_wp2_with fail
            go_ret
            rw [HA.out]
            exact ⟨rfl, rfl⟩
          · have hn' : decide (ns[k] < 0) = false := by simp; omega
            by_cases hn6 : 6 < ns[k]
            · have HA : Hid (areS ns = false) := areS_no hlt (Or.inr hn6)
              generalize ns[k] = s at *
              go_wp2_with fail
              go_ret
              rw [HA.out]
              exact ⟨rfl, rfl⟩
            · have hn6' : decide (6 < ns[k]) = false := by simp; omega
              have HI2 : Hid (∀ i (hi : i < ns.length), i < k + 1 → 0 ≤ ns[i] ∧ ns[i] ≤ 6) := by
                intro i hi hi2
                by_cases hik : i = k
                · subst hik; omega
                · exact HI.out i hi (by omega)
              clear hn hn6
              generalize ns[k] = s at *
              go_wp2_with fail
              go_roundg (ns.length - (k + 1) + 1)
              case measure => omega
              case rel => exact ⟨k + 1, by omega, rfl, by go_num, rfl, HI2⟩
        · have hlt' : decide ((k : Int) < (ns.length : Int)) = false := by simp; omega
          have HA : Hid (areS ns = true) := areS_yes (by omega) (fun i hi => HI.out i hi (by omega))
          go_wp2_with fail
          go_ret
          rw [HA.out]
          exact ⟨rfl, rfl⟩

theorem runE_code {L : List UInt8} {ns : List Int} (h : 8000 < L.length ∨ (runM ns L ([], 0, false)).2.2 = true ∨ (runM ns L ([], 0, false)).1.length ≠ 1) : runE L ns = (0, 9) := by
  unfold runE
  by_cases h0 : 8000 < L.length
  · rw [if_pos h0]
  · rw [if_neg h0, if_pos (h.resolve_left h0)]
theorem runE_arg {L : List UInt8} {ns : List Int} (h0 : L.length ≤ 8000) (h1 : (runM ns L ([], 0, false)).2.2 = false) (h2 : (runM ns L ([], 0, false)).1.length = 1) (h : ns.length < (runM ns L ([], 0, false)).2.1 ∨ areS ns = false) : runE L ns = (0, 10) := by
  unfold runE
  rw [if_neg (by omega), if_neg (by rw [h1, h2]; simp), if_pos h]
theorem runE_ok {L : List UInt8} {ns : List Int} (h0 : L.length ≤ 8000) (h1 : (runM ns L ([], 0, false)).2.2 = false) (h2 : (runM ns L ([], 0, false)).1.length = 1) (h3 : (runM ns L ([], 0, false)).2.1 ≤ ns.length) (h4 : areS ns = true) : runE L ns = ((runM ns L ([], 0, false)).1.getD 0 0, 0) := by
  unfold runE
  rw [if_neg (by omega), if_neg (by rw [h1, h2]; simp), if_neg (by rw [h4]; simp; omega)]

set_option maxHeartbeats 2000000 in
theorem Run_any (T : ByteArray) (u : Value) (ns : List Int) (w : World) (hu : IntsB w.heap.size u ns w) (hT : T.size ≤ maxLen) :
    Calls Tryz.prog 102 #[.string T, u] w fun e w' => e = .returned (.tuple #[.int .i64 ((runE T.data.toList ns).1 : Int), .int .i64 ((runE T.data.toList ns).2 : Int)]) ∧ Below w.heap.size w w' := by
  have hlen : T.data.toList.length = T.size := by simp
  unfold maxLen at hT
  by_cases hb : 8000 < T.size
  · have hb' : (8000 : Int) < (T.size : Int) := by omega
    have HE : Hid (runE T.data.toList ns = (0, 9)) := runE_code (Or.inl (by omega))
    go_enter Tryz.func102, Tryz.ntmps102
    go_wp2_with fail
    go_ret2
    rw [HE.out]
    exact ⟨rfl, Below.refl _ _⟩
  · have hb' : decide ((8000 : Int) < (T.size : Int)) = false := by simp; omega
    obtain ⟨ua, uc, rfl⟩ := hu.form
    go_enter Tryz.func102, Tryz.ntmps102
    go_wp2_with fail
    have M0 : MS w.heap.size ([], 0, false) (w.alloc (.cells #[.slice none 0 0, .int .i64 0, .bool false] 176)) :=
      ⟨none, 0, whole_new w _, World.ownsRow_nil _ _ _ _, by simp, by simp⟩
    have B0 : Below w.heap.size w (w.alloc (.cells #[.slice none 0 0, .int .i64 0, .bool false] 176)) := (Below.refl _ w).alloc (Nat.le_refl _) _
    refine (run_any w.heap.size T _ ns ([], 0, false) _ M0 (hu.kept B0) (by omega)).mono ?_
    rintro e w1 ⟨rfl, hm, hB⟩
    replace hB := B0.trans hB
    have hu1 := hu.kept hB
    have Hcode : Hid ((runM ns T.data.toList ([], 0, false)).2.2 = true ∨ (runM ns T.data.toList ([], 0, false)).1.length ≠ 1 → runE T.data.toList ns = (0, 9)) := fun z => runE_code (Or.inr z)
    have Harg : Hid ((runM ns T.data.toList ([], 0, false)).2.2 = false → (runM ns T.data.toList ([], 0, false)).1.length = 1 → ns.length < (runM ns T.data.toList ([], 0, false)).2.1 ∨ areS ns = false → runE T.data.toList ns = (0, 10)) := fun z1 z2 z3 => runE_arg (by omega) z1 z2 z3
    have Hok : Hid ((runM ns T.data.toList ([], 0, false)).2.2 = false → (runM ns T.data.toList ([], 0, false)).1.length = 1 → (runM ns T.data.toList ([], 0, false)).2.1 ≤ ns.length → areS ns = true → runE T.data.toList ns = ((runM ns T.data.toList ([], 0, false)).1.getD 0 0, 0)) := fun z1 z2 z3 z4 => runE_ok (by omega) z1 z2 z3 z4
    generalize runM ns T.data.toList ([], 0, false) = m at *
    obtain ⟨S, a, br⟩ := m
    dsimp only at Hcode Harg Hok
    obtain ⟨pa, pc, h1, hown, hl, hv⟩ := hm
    have q0 := h1.c0; have q1 := h1.c1; have q2 := h1.c2
    dsimp only at q0 q1 q2 hown hl
    clear h1 M0 B0
    cases br with
    | true =>
      have HE : Hid (runE T.data.toList ns = (0, 9)) := Hcode.out (Or.inl rfl)
      go_wp2_with fail
      go_ret2
      rw [HE.out]
      exact ⟨rfl, hB⟩
    | false =>
      by_cases hS : S.length = 1
      · obtain ⟨s, rfl⟩ : ∃ s, S = [s] := List.length_eq_one_iff.1 hS
        have hown1 : w1.ownsRow (w.heap.size + 1) 3 1 (.slice pa 1 pc) 1 [vI s] := hown
        obtain ⟨g, rfl⟩ : ∃ g, pa = some ⟨g, 0, none⟩ := by
          rcases hown1.2 with ⟨hq, _⟩ | ⟨g, cap, cur, hq, _⟩
          · cases hq
          · cases hq; exact ⟨g, rfl⟩
        have cs := row_cellI hown1 0 (by omega)
        simp [vI] at cs
        have hcap : 1 ≤ pc := by
          rcases hown1.2 with ⟨hq, _⟩ | ⟨g, cap, cur, hq, _, _, hh, _⟩
          · cases hq
          · cases hq; exact hh
        simp only [List.length_cons, List.length_nil, Nat.zero_add] at q0
        clear hown hown1
        by_cases ha : ns.length < a
        · have HE : Hid (runE T.data.toList ns = (0, 10)) := Harg.out rfl rfl (Or.inl ha)
          have ha' : (ns.length : Int) < (a : Int) := by omega
          go_wp2_with fail
          go_ret2
          rw [HE.out]
          exact ⟨rfl, hB⟩
        · have ha' : decide ((ns.length : Int) < (a : Int)) = false := by simp; omega
          go_wp2_with fail
          refine (areStates_any w.heap.size _ ns _ hu1).mono ?_
          rintro e w2 ⟨rfl, hw2⟩
          subst hw2
          cases hA : areS ns with
          | false =>
            have HE : Hid (runE T.data.toList ns = (0, 10)) := Harg.out (by trivial) (by simp) (Or.inr hA)
            clear hA
            go_wp2_with fail
            go_ret2
            rw [HE.out]
            exact ⟨rfl, hB⟩
          | true =>
            have HE : Hid (runE T.data.toList ns = (s, 0)) := Hok.out (by trivial) (by simp) (by omega) hA
            clear hA
            go_wp2_with fail
            go_ret2
            rw [HE.out]
            exact ⟨rfl, hB⟩
      · have HE : Hid (runE T.data.toList ns = (0, 9)) := Hcode.out (Or.inr hS)
        have hS' : ((S.length : Int) != 1) = true := by rw [bne_iff_ne]; omega
        go_wp2_with fail
        go_ret2
        rw [HE.out]
        exact ⟨rfl, hB⟩
end Go.Proofs.YtanknpmojblmcaaGreatDoor

/-
  Package pool: the answers that read alone; an end.
-/
set_option linter.unusedSimpArgs false
set_option linter.unusedVariables false
namespace Go.Proofs.YtanknpmojblmcaaGreatDoor
open Go.RowKit

variable {D : Nat → Prop} {s : Nat} {p : PS} {gv jv qv : Value} {w w' : World}

theorem SM.jform (h : SM D s p gv jv qv w) {id : Nat} (hid : id < p.js.length) : ∃ g cap, jv = .slice (some ⟨g, 0, none⟩) p.js.length cap := by
  rcases h.jr.2 with ⟨_, h1⟩ | ⟨g, cap, cur, hv, _⟩
  · omega
  · exact ⟨g, cap, hv⟩
theorem SM.jc {g n cap : Nat} (h : SM D s p gv (.slice (some ⟨g, 0, none⟩) n cap) qv w) {k : Nat} (hk : k < p.js.length) : w.cell? ⟨g, k * 6, none⟩ = some (.string (bs p.js[k].code)) ∧ w.cell? ⟨g, k * 6 + 1, none⟩ = some (.int .i64 (p.js[k].st : Int)) ∧ w.cell? ⟨g, k * 6 + 2, none⟩ = some (.int .i64 (p.js[k].nd : Int)) ∧ w.cell? ⟨g, k * 6 + 3, none⟩ = some (.int .i64 (p.js[k].tm : Int)) ∧ w.cell? ⟨g, k * 6 + 4, none⟩ = some (.int .i64 p.js[k].sa) ∧ w.cell? ⟨g, k * 6 + 5, none⟩ = some (.int .i64 p.js[k].en) := by
  rcases Ps.of h.jr with ⟨h1, _⟩ | ⟨g', cap', hv, _, _, hc⟩
  · simp at h1
  · simp only [Value.slice.injEq, Option.some.injEq, Addr.mk.injEq, and_true, true_and] at hv
    obtain ⟨rfl, _, _⟩ := hv
    have l0 := hc k hk 0 (by omega); have l1 := hc k hk 1 (by omega); have l2 := hc k hk 2 (by omega); have l3 := hc k hk 3 (by omega); have l4 := hc k hk 4 (by omega); have l5 := hc k hk 5 (by omega)
    simp [pjC] at l0 l1 l2 l3 l4 l5
    exact ⟨l0, l1, l2, l3, l4, l5⟩

set_option maxHeartbeats 1000000 in
theorem plNodes (h : SM D s p gv jv qv w) :
    Calls Tryz.prog 19 #[.pointer (some ⟨s, 1, none⟩)] w fun e w' => e = .returned (.int .i64 (p.nodes : Int)) ∧ w' = w := by
  have c1 := h.pl.c 1
  simp at c1
  go_enter Tryz.func19, Tryz.ntmps19
  go_wp2_with fail
  go_ret
  exact ⟨rfl, rfl⟩
set_option maxHeartbeats 1000000 in
theorem plCount (h : SM D s p gv jv qv w) :
    Calls Tryz.prog 20 #[.pointer (some ⟨s, 1, none⟩)] w fun e w' => e = .returned (.int .i64 (p.js.length : Int)) ∧ w' = w := by
  have c3 := h.pl.c 3
  obtain ⟨a, c, rfl⟩ := (Ps.of h.jr).form
  simp at c3
  go_enter Tryz.func20, Tryz.ntmps20
  go_wp2_with fail
  go_ret
  exact ⟨rfl, rfl⟩

set_option maxHeartbeats 1000000 in
theorem plHasId (h : SM D s p gv jv qv w) (id : Int) :
    Calls Tryz.prog 94 #[.pointer (some ⟨s, 1, none⟩), .int .i64 id] w fun e w' => e = .returned (.bool (decide (0 ≤ id) && decide (id < (p.js.length : Int)))) ∧ w' = w := by
  have c3 := h.pl.c 3
  obtain ⟨a, c, rfl⟩ := (Ps.of h.jr).form
  simp at c3
  by_cases h0 : 0 ≤ id
  · have h0' : decide (0 ≤ id) = true := by simpa using h0
    rw [h0']
    go_enter Tryz.func94, Tryz.ntmps94
    go_wp2_with fail
    go_ret
    exact ⟨rfl, rfl⟩
  · have h0' : decide (0 ≤ id) = false := by simpa using h0
    rw [h0']
    go_enter Tryz.func94, Tryz.ntmps94
    go_wp2_with fail
    go_ret
    exact ⟨rfl, rfl⟩

set_option maxHeartbeats 1000000 in
theorem plEnd (h : SM D s p gv jv qv w) (id st : Nat) (hid : id < p.js.length) (hl : p.js.length ≤ 24) :
    Calls Tryz.prog 91 #[.pointer (some ⟨s, 1, none⟩), .int .i64 (id : Int), .int .i64 (st : Int)] w fun e w' => e = .returned (.tuple #[]) ∧ SM D s { p with js := p.js.set id ((p.js[id].toSt st).toEn p.now) } gv jv qv w' ∧ Keep D w w' := by
  obtain ⟨g, cap, rfl⟩ := h.jform hid
  have HS : Hid (SM D s p gv (.slice (some ⟨g, 0, none⟩) p.js.length cap) qv w) := h
  have hgs : g ≠ s := fun e => h.jne (by simp [Value.ownBlock, e])
  have c2 := h.pl.c 2; have c3 := h.pl.c 3
  simp at c2 c3
  obtain ⟨l0, l1, l2, l3, l4, l5⟩ := h.jc hid
  have z1 := h.jr.frozenAt (id * 6 + 1)
  have z5 := h.jr.frozenAt (id * 6 + 5)
  clear h
  go_enter Tryz.func91, Tryz.ntmps91
  go_wp2_with fail
  have H1 := HS.out.setJ id 1 (by omega) (.int .i64 (st : Int)) (p.js[id].toSt st) hid rfl
  have K1 : Hid (Keep D w (w.setCell ⟨g, id * 6 + 1, none⟩ (.int .i64 (st : Int)))) := (Keep.refl D w).setCell (HS.out.dj g rfl) _
  clear HS c2 c3 l0 l1 l2 l3 l4 l5 z1 z5
  generalize w.setCell ⟨g, id * 6 + 1, none⟩ (.int .i64 (st : Int)) = w1 at *
  have HS : Hid (SM D s { p with js := p.js.set id (p.js[id].toSt st) } gv (.slice (some ⟨g, 0, none⟩) p.js.length cap) qv w1) := H1
  have c2 := H1.pl.c 2; have c3 := H1.pl.c 3
  simp at c2 c3
  have hid' : id < (p.js.set id (p.js[id].toSt st)).length := by simpa using hid
  obtain ⟨l0, l1, l2, l3, l4, l5⟩ := H1.jc hid'
  have hr := H1.jr
  simp only [List.length_set] at hr
  have z5 := hr.frozenAt (id * 6 + 5)
  clear H1 hr l0 l1 l2 l3 l4
  go_region
  have H2 := HS.out.setJ id 5 (by omega) (.int .i64 p.now) ((p.js[id].toSt st).toEn p.now) hid' (by simp [pjC, PJ.toSt, PJ.toEn])
  have K2 : Keep D w (w1.setCell ⟨g, id * 6 + 5, none⟩ (.int .i64 p.now)) := K1.out.setCell (HS.out.dj g rfl) _
  simp only [List.set_set] at H2
  go_end0
  exact ⟨rfl, H2.below (Below.refl _ _).drew, K2.trans (Keep.below (Below.refl _ _).drew H2.dom)⟩
end Go.Proofs.YtanknpmojblmcaaGreatDoor

/-
  What the pool does, as functions on lists; its numbers stay small.
-/
set_option linter.unusedSimpArgs false
set_option linter.unusedVariables false
namespace Go.Proofs.YtanknpmojblmcaaGreatDoor

theorem sum_set (f : PJ → Nat) : ∀ (js : List PJ) (i : Nat) (h : i < js.length) (x : PJ), ((js.set i x).map f).sum + f js[i] = (js.map f).sum + f x := by
  intro js
  induction js with
  | nil => intro i h; simp at h
  | cons a r ih =>
    intro i h x
    cases i with
    | zero => simp only [List.set_cons_zero, List.map_cons, List.sum_cons, List.getElem_cons_zero]; omega
    | succ i =>
      have := ih i (by simpa using h) x
      simp only [List.set_cons_succ, List.map_cons, List.sum_cons, List.getElem_cons_succ]
      omega

def wtJ (j : PJ) : Nat := if j.st = 0 then 0 else j.tm
def sumT (js : List PJ) : Nat := (js.map wtJ).sum
theorem sum_le (f : PJ → Nat) (c : Nat) : ∀ (js : List PJ), (∀ j ∈ js, f j ≤ c) → (js.map f).sum ≤ c * js.length := by
  intro js
  induction js with
  | nil => intro _; simp
  | cons a r ih =>
    intro h
    have h1 := ih (fun j hj => h j (by simp [hj]))
    have h2 := h a (by simp)
    simp [Nat.mul_add]
    omega

/-- What keeps a job's numbers small. -/
structure JOK (j : PJ) : Prop where
  st : j.st ≤ 6
  nd : j.nd ≤ 8
  tm : j.tm ≤ 12
  lo : -1 ≤ j.sa
  cd : j.code.length ≤ 8000
/-- What keeps a system's numbers small. -/
structure NOK (p : PS) : Prop where
  js : ∀ j ∈ p.js, JOK j
  ln : p.js.length ≤ 24
  nd : p.nodes ≤ 8
  lo : 0 ≤ p.now
  hi : p.now ≤ 5000
  sa : ∀ j ∈ p.js, j.sa ≤ p.now + (sumT p.js : Int)
  ov : ∀ j ∈ p.js, hasS j = true → overJ j ≤ p.now + (sumT p.js : Int)

theorem NOK.sum {p : PS} (h : NOK p) : sumT p.js ≤ 288 := by
  have h1 := sum_le wtJ 12 p.js (fun j hj => by have := (h.js j hj).tm; unfold wtJ; split <;> omega)
  have h2 := h.ln
  unfold sumT
  omega
theorem NOK.pj {p : PS} (h : NOK p) : ∀ j ∈ p.js, PjOK j := by
  intro j hj
  have h1 := h.js j hj
  have h2 := h.sa j hj
  have h3 := h.sum
  have h4 := h.hi
  exact ⟨h1.st, h1.nd, h1.tm, h1.lo, by omega⟩

theorem NOK.set {p : PS} (h : NOK p) (i : Nat) (hi : i < p.js.length) (x : PJ) (h1 : x.st ≤ 6) (h2 : x.nd = p.js[i].nd) (h3 : x.tm = p.js[i].tm) (h4 : x.code = p.js[i].code) (h5 : -1 ≤ x.sa)
    (h6 : x.sa ≤ p.now + (sumT p.js : Int)) (h7 : hasS x = true → overJ x ≤ p.now + (sumT p.js : Int) + (if p.js[i].st = 0 then (x.tm : Int) else 0)) (h8 : x.st = 0 → p.js[i].st = 0) : NOK { p with js := p.js.set i x } := by
  have hm : p.js[i] ∈ p.js := List.getElem_mem hi
  have ho := h.js _ hm
  have hs := sum_set wtJ p.js i hi x
  have hle : sumT p.js ≤ sumT (p.js.set i x) ∧ (x.st ≠ 0 → sumT p.js + (if p.js[i].st = 0 then x.tm else 0) ≤ sumT (p.js.set i x)) := by
    have e1 : wtJ p.js[i] = if p.js[i].st = 0 then 0 else p.js[i].tm := rfl
    have e2 : wtJ x = if x.st = 0 then 0 else x.tm := rfl
    change sumT (p.js.set i x) + wtJ p.js[i] = sumT p.js + wtJ x at hs
    rw [e1, e2, ← h3] at hs
    by_cases a : p.js[i].st = 0
    · by_cases b : x.st = 0
      · simp only [a, b, if_true] at hs ⊢
        exact ⟨by omega, fun q => absurd rfl q⟩
      · simp only [a, b, if_true, if_false] at hs ⊢
        exact ⟨by omega, fun q => by omega⟩
    · have b : ¬ x.st = 0 := fun e => a (h8 e)
      simp only [a, b, if_false] at hs ⊢
      exact ⟨by omega, fun q => by omega⟩
  refine ⟨?_, by simpa using h.ln, h.nd, h.lo, h.hi, ?_, ?_⟩
  · intro j hj
    rcases List.mem_or_eq_of_mem_set hj with hj | rfl
    · exact h.js j hj
    · exact ⟨h1, by rw [h2]; exact ho.nd, by rw [h3]; exact ho.tm, h5, by rw [h4]; exact ho.cd⟩
  · intro j hj
    show j.sa ≤ p.now + (sumT (p.js.set i x) : Int)
    rcases List.mem_or_eq_of_mem_set hj with hj | rfl
    · have := h.sa j hj; omega
    · omega
  · intro j hj hh
    show overJ j ≤ p.now + (sumT (p.js.set i x) : Int)
    rcases List.mem_or_eq_of_mem_set hj with hj | rfl
    · have := h.ov j hj hh; omega
    · have hx : j.st ≠ 0 := by
        intro e
        unfold hasS at hh
        rw [e] at hh
        simp at hh
      have q := hle.2 hx
      have := h7 hh
      split at this <;> simp_all <;> omega

theorem earlN_bd (js : List PJ) (nodes id : Nat) (last : Int) : ∀ (f : Nat) (t : Int), t ≤ last → t ≤ earlN js nodes id last f t ∧ earlN js nodes id last f t ≤ last := by
  intro f
  induction f with
  | zero => intro t ht; unfold earlN; omega
  | succ f ih =>
    intro t ht
    unfold earlN
    split
    · rename_i hc
      have := ih (t + 1) (by omega)
      omega
    · omega
theorem allN_bd (now : Int) (js : List PJ) (B : Int) (h0 : now ≤ B) (h : ∀ j ∈ js, hasS j = true → overJ j ≤ B) : ∀ n, now ≤ allN now js n ∧ allN now js n ≤ B := by
  intro n
  induction n with
  | zero => unfold allN; omega
  | succ n ih =>
    unfold allN
    split
    · rename_i hc
      refine ⟨by omega, ?_⟩
      by_cases hn : n < js.length
      · have e : js.getD n pj0 = js[n] := by simp [hn]
        rw [e] at hc ⊢
        exact h _ (List.getElem_mem hn) hc.1
      · have e : js.getD n pj0 = pj0 := by simp [hn]
        rw [e] at hc
        simp [pj0, hasS] at hc
    · exact ih
theorem NOK.early {p : PS} (h : NOK p) (id : Nat) : p.now ≤ earlF p.js p.nodes id p.now ∧ earlF p.js p.nodes id p.now ≤ p.now + (sumT p.js : Int) := by
  have h1 := allN_bd p.now p.js (p.now + (sumT p.js : Int)) (by omega) h.ov p.js.length
  have h2 := earlN_bd p.js p.nodes id (allF p.now p.js) (allF p.now p.js - p.now).toNat p.now h1.1
  unfold earlF
  unfold allF at *
  omega

/-- The value of a job by the states of all. -/
def stI (js : List PJ) : List Int := js.map fun j => (j.st : Int)
def valJ (js : List PJ) (id : Nat) : Nat := (runE (js.getD id pj0).code (stI js)).1
def heldB (js : List PJ) (id v : Nat) : Bool := decide ((js.getD id pj0).st = 0) && decide (valJ js id = v)

theorem getD_get {js : List PJ} {i : Nat} (h : i < js.length) : js.getD i pj0 = js[i] := by simp [h]

/-- giveUp. -/
def giveN (now : Int) (js : List PJ) : Nat → List PJ × Bool
  | 0 => (js, false)
  | n + 1 => if heldB (giveN now js n).1 n 2 = true then ((giveN now js n).1.set n ((((giveN now js n).1.getD n pj0).toSt 6).toEn now), true) else giveN now js n
def giveF (now : Int) : Nat → List PJ → List PJ
  | 0, js => js
  | k + 1, js => if (giveN now js js.length).2 = true then giveF now k (giveN now js js.length).1 else (giveN now js js.length).1
def cH (j : PJ) : Nat := if j.st = 0 then 1 else 0
def cntH (js : List PJ) : Nat := (js.map cH).sum
def PS.withJ (p : PS) (js : List PJ) : PS := { p with js := js }
def giveUpF (p : PS) : PS := p.withJ (giveF p.now (cntH p.js + 1) p.js)

theorem giveN_len (now : Int) (js : List PJ) : ∀ n, (giveN now js n).1.length = js.length := by
  intro n
  induction n with
  | zero => rfl
  | succ n ih => unfold giveN; split <;> simp [ih]
theorem giveN_ok {p : PS} (h : NOK p) : ∀ n, n ≤ p.js.length → NOK (p.withJ (giveN p.now p.js n).1) := by
  intro n
  induction n with
  | zero => intro _; exact h
  | succ n ih =>
    intro hn
    have h1 := ih (by omega)
    have hl := giveN_len p.now p.js n
    unfold giveN
    split
    · rename_i hc
      have hi : n < (giveN p.now p.js n).1.length := by omega
      have hm := h1.sa _ (List.getElem_mem (show n < (p.withJ (giveN p.now p.js n).1).js.length from hi))
      have hj := h1.js _ (List.getElem_mem (show n < (p.withJ (giveN p.now p.js n).1).js.length from hi))
      rw [getD_get hi]
      exact h1.set n hi _ (by show 6 ≤ 6; omega) rfl rfl rfl hj.lo hm (by intro q; simp [hasS, PJ.toEn, PJ.toSt] at q) (by intro q; simp [PJ.toEn, PJ.toSt] at q)
    · exact h1
theorem giveN_cnt (now : Int) (js : List PJ) : ∀ n, n ≤ js.length → cntH (giveN now js n).1 ≤ cntH js ∧ ((giveN now js n).2 = true → cntH (giveN now js n).1 < cntH js) := by
  intro n
  induction n with
  | zero => intro _; unfold giveN; simp
  | succ n ih =>
    intro hn
    have h1 := ih (by omega)
    have hl := giveN_len now js n
    unfold giveN
    split
    · rename_i hc
      have hi : n < (giveN now js n).1.length := by omega
      rw [getD_get hi]
      have hs := sum_set cH (giveN now js n).1 n hi (((giveN now js n).1[n].toSt 6).toEn now)
      have h0 : (giveN now js n).1[n].st = 0 := by
        unfold heldB at hc
        rw [getD_get hi] at hc
        simp at hc
        exact hc.1
      have a1 : cH (giveN now js n).1[n] = 1 := by unfold cH; rw [if_pos h0]
      have a2 : cH (((giveN now js n).1[n].toSt 6).toEn now) = 0 := rfl
      change cntH ((giveN now js n).1.set n (((giveN now js n).1[n].toSt 6).toEn now)) + _ = cntH (giveN now js n).1 + _ at hs
      rw [a1, a2] at hs
      exact ⟨by dsimp only; omega, fun _ => by dsimp only; omega⟩
    · exact h1

/-- moveEach, moveUp. -/
def moveN (nodes : Nat) (now : Int) (qs : List Nat) (js : List PJ) : Nat → List PJ × Bool
  | 0 => (js, false)
  | n + 1 => if earlF (moveN nodes now qs js n).1 nodes (qs.getD n 0) now < ((moveN nodes now qs js n).1.getD (qs.getD n 0) pj0).sa then ((moveN nodes now qs js n).1.set (qs.getD n 0) (((moveN nodes now qs js n).1.getD (qs.getD n 0) pj0).toSa (earlF (moveN nodes now qs js n).1 nodes (qs.getD n 0) now)), true) else moveN nodes now qs js n
def moveF (nodes : Nat) (now : Int) (qs : List Nat) : Nat → List PJ → List PJ
  | 0, js => js
  | k + 1, js => if (moveN nodes now qs js qs.length).2 = true then moveF nodes now qs k (moveN nodes now qs js qs.length).1 else (moveN nodes now qs js qs.length).1
def sJ (j : PJ) : Nat := (j.sa + 1).toNat
def sumS (js : List PJ) : Nat := (js.map sJ).sum
def moveUpF (p : PS) : PS := p.withJ (moveF p.nodes p.now p.qs (sumS p.js + 1) p.js)

theorem moveN_len (nodes : Nat) (now : Int) (qs : List Nat) (js : List PJ) : ∀ n, (moveN nodes now qs js n).1.length = js.length := by
  intro n
  induction n with
  | zero => rfl
  | succ n ih => unfold moveN; split <;> simp [ih]
theorem moveN_ok {p : PS} (h : NOK p) (hqs : ∀ i ∈ p.qs, i < p.js.length) : ∀ n, n ≤ p.qs.length → NOK (p.withJ (moveN p.nodes p.now p.qs p.js n).1) := by
  intro n
  induction n with
  | zero => intro _; exact h
  | succ n ih =>
    intro hn
    have h1 := ih (by omega)
    have hl := moveN_len p.nodes p.now p.qs p.js n
    unfold moveN
    split
    · rename_i hc
      have hq : p.qs.getD n 0 < p.js.length := by
        have e : p.qs.getD n 0 = p.qs[n] := by simp [show n < p.qs.length by omega]
        rw [e]; exact hqs _ (List.getElem_mem _)
      generalize p.qs.getD n 0 = id at *
      have hi : id < (moveN p.nodes p.now p.qs p.js n).1.length := by omega
      have hm := h1.sa _ (List.getElem_mem (show id < (p.withJ (moveN p.nodes p.now p.qs p.js n).1).js.length from hi))
      have hj := h1.js _ (List.getElem_mem (show id < (p.withJ (moveN p.nodes p.now p.qs p.js n).1).js.length from hi))
      have hov := h1.ov _ (List.getElem_mem (show id < (p.withJ (moveN p.nodes p.now p.qs p.js n).1).js.length from hi))
      have he := (h1.early id).1
      have hlo := h.lo
      rw [getD_get hi] at hc ⊢
      generalize hX : (moveN p.nodes p.now p.qs p.js n).1 = X at *
      change p.now ≤ earlF X p.nodes id p.now at he
      change X[id].sa ≤ p.now + (sumT X : Int) at hm
      change hasS X[id] = true → overJ X[id] ≤ p.now + (sumT X : Int) at hov
      change JOK X[id] at hj
      refine h1.set id hi _ hj.st rfl rfl rfl ?_ ?_ ?_ (fun q => q)
      · show -1 ≤ earlF X p.nodes id p.now
        omega
      · show earlF X p.nodes id p.now ≤ p.now + (sumT X : Int)
        omega
      · intro q
        have := hov q
        show earlF X p.nodes id p.now + (X[id].tm : Int) ≤ p.now + (sumT X : Int) + _
        unfold overJ at this
        split <;> omega
    · exact h1
theorem moveN_sum {p : PS} (h : NOK p) (hqs : ∀ i ∈ p.qs, i < p.js.length) : ∀ n, n ≤ p.qs.length → sumS (moveN p.nodes p.now p.qs p.js n).1 ≤ sumS p.js ∧ ((moveN p.nodes p.now p.qs p.js n).2 = true → sumS (moveN p.nodes p.now p.qs p.js n).1 < sumS p.js) := by
  intro n
  induction n with
  | zero => intro _; unfold moveN; simp
  | succ n ih =>
    intro hn
    have h1 := ih (by omega)
    have h2 := moveN_ok h hqs n (by omega)
    have hl := moveN_len p.nodes p.now p.qs p.js n
    unfold moveN
    split
    · rename_i hc
      have hq : p.qs.getD n 0 < p.js.length := by
        have e : p.qs.getD n 0 = p.qs[n] := by simp [show n < p.qs.length by omega]
        rw [e]; exact hqs _ (List.getElem_mem _)
      generalize p.qs.getD n 0 = id at *
      have hi : id < (moveN p.nodes p.now p.qs p.js n).1.length := by omega
      have he := (h2.early id).1
      have hlo := h.lo
      rw [getD_get hi] at hc ⊢
      generalize hX : (moveN p.nodes p.now p.qs p.js n).1 = X at *
      change p.now ≤ earlF X p.nodes id p.now at he
      have hs := sum_set sJ X id hi (X[id].toSa (earlF X p.nodes id p.now))
      have a1 : sJ X[id] = (X[id].sa + 1).toNat := rfl
      have a2 : sJ (X[id].toSa (earlF X p.nodes id p.now)) = (earlF X p.nodes id p.now + 1).toNat := rfl
      change sumS (X.set id (X[id].toSa (earlF X p.nodes id p.now))) + _ = sumS X + _ at hs
      rw [a1, a2] at hs
      exact ⟨by dsimp only; omega, fun _ => by dsimp only; omega⟩
    · exact h1

def cQ (j : PJ) : Nat := if j.st = 1 then 1 else 0
def cntQ (js : List PJ) : Nat := (js.map cQ).sum
/-- The queue has the queued jobs, each once. -/
structure QOK (js : List PJ) (qs : List Nat) : Prop where
  lt : ∀ i ∈ qs, i < js.length
  q1 : ∀ i ∈ qs, (js.getD i pj0).st = 1
  nd : qs.Nodup
  al : ∀ i, i < js.length → (js.getD i pj0).st = 1 → i ∈ qs
  cn : qs.length ≤ cntQ js
theorem getD_set {js : List PJ} {i k : Nat} {x : PJ} (hi : i < js.length) : (js.set i x).getD k pj0 = if k = i then x else js.getD k pj0 := by
  by_cases hk : k = i
  · subst hk; simp [hi]
  · rw [if_neg hk]
    simp [List.getElem?_set, show ¬ i = k from fun e => hk e.symm]
theorem QOK.ln {js : List PJ} {qs : List Nat} (h : QOK js qs) (hl : js.length ≤ 24) : qs.length ≤ 24 := by
  have h1 := sum_le cQ 1 js (fun j _ => by unfold cQ; split <;> omega)
  have := h.cn
  unfold cntQ at this
  omega
/-- A job that is not queued and is not to be. -/
theorem QOK.set {js : List PJ} {qs : List Nat} (h : QOK js qs) (i : Nat) (hi : i < js.length) (x : PJ) (hx : x.st = 1 ↔ js[i].st = 1) : QOK (js.set i x) qs := by
  refine ⟨by simpa using h.lt, ?_, h.nd, ?_, ?_⟩
  · intro k hk
    rw [getD_set hi]
    split
    · rename_i e; subst e
      have := h.q1 k hk
      rw [getD_get hi] at this
      exact hx.mpr this
    · exact h.q1 k hk
  · intro k hk hs
    rw [getD_set hi] at hs
    split at hs
    · rename_i e; subst e
      exact h.al k (by simpa using hk) (by rw [getD_get hi]; exact hx.mp hs)
    · exact h.al k (by simpa using hk) hs
  · have hs := sum_set cQ js i hi x
    change cntQ (js.set i x) + _ = cntQ js + _ at hs
    have hc := h.cn
    have e : cQ js[i] = cQ x := by
      unfold cQ
      by_cases q : x.st = 1
      · rw [if_pos q, if_pos (hx.mp q)]
      · rw [if_neg q, if_neg (fun e => q (hx.mpr e))]
    omega
/-- A job is queued. -/
theorem QOK.push {js : List PJ} {qs : List Nat} (h : QOK js qs) (i : Nat) (hi : i < js.length) (x : PJ) (hx : x.st = 1) (ho : js[i].st ≠ 1) : QOK (js.set i x) (qs ++ [i]) := by
  have hni : i ∉ qs := fun e => ho (by have := h.q1 i e; rw [getD_get hi] at this; exact this)
  refine ⟨?_, ?_, ?_, ?_, ?_⟩
  · intro k hk
    simp only [List.mem_append, List.mem_singleton] at hk
    rcases hk with hk | rfl
    · simpa using h.lt k hk
    · simpa using hi
  · intro k hk
    rw [getD_set hi]
    split
    · exact hx
    · simp only [List.mem_append, List.mem_singleton] at hk
      rcases hk with hk | rfl
      · exact h.q1 k hk
      · exact absurd rfl (by assumption)
  · rw [List.nodup_append]
    refine ⟨h.nd, by simp, ?_⟩
    intro a ha b hb
    simp at hb
    subst hb
    exact fun e => hni (e ▸ ha)
  · intro k hk hs
    rw [getD_set hi] at hs
    split at hs
    · rename_i e; subst e; simp
    · have := h.al k (by simpa using hk) hs
      simp [this]
  · have hs := sum_set cQ js i hi x
    change cntQ (js.set i x) + _ = cntQ js + _ at hs
    have hc := h.cn
    have e1 : cQ js[i] = 0 := by unfold cQ; rw [if_neg ho]
    have e2 : cQ x = 1 := by unfold cQ; rw [if_pos hx]
    rw [List.length_append]
    simp only [List.length_singleton]
    omega
/-- A job leaves the queue. -/
theorem QOK.pop {js : List PJ} {A B : List Nat} {i : Nat} (h : QOK js (A ++ i :: B)) (hi : i < js.length) (x : PJ) (hx : x.st ≠ 1) : QOK (js.set i x) (A ++ B) := by
  have hnd := h.nd
  have ho : js[i].st = 1 := by have := h.q1 i (by simp); rw [getD_get hi] at this; exact this
  rw [List.nodup_append] at hnd
  obtain ⟨n1, n2, n3⟩ := hnd
  rw [List.nodup_cons] at n2
  have hni : i ∉ A ++ B := by
    simp only [List.mem_append]
    rintro (e | e)
    · exact n3 i e i (by simp) rfl
    · exact n2.1 e
  have sub : ∀ k, k ∈ A ++ B → k ∈ A ++ i :: B := by
    intro k hk
    simp only [List.mem_append, List.mem_cons] at hk ⊢
    rcases hk with e | e
    · exact Or.inl e
    · exact Or.inr (Or.inr e)
  refine ⟨?_, ?_, ?_, ?_, ?_⟩
  · intro k hk; simpa using h.lt k (sub k hk)
  · intro k hk
    rw [getD_set hi, if_neg (fun e => hni (by rw [← e]; exact hk))]
    exact h.q1 k (sub k hk)
  · rw [List.nodup_append]
    exact ⟨n1, n2.2, fun a ha b hb => n3 a ha b (by simp [hb])⟩
  · intro k hk hs
    rw [getD_set hi] at hs
    split at hs
    · exact absurd hs hx
    · rename_i hne
      have := h.al k (by simpa using hk) hs
      simp only [List.mem_append, List.mem_cons] at this ⊢
      rcases this with e | e | e
      · exact Or.inl e
      · exact absurd e hne
      · exact Or.inr e
  · have hs := sum_set cQ js i hi x
    change cntQ (js.set i x) + _ = cntQ js + _ at hs
    have hc := h.cn
    have e1 : cQ js[i] = 1 := by unfold cQ; rw [if_pos ho]
    have e2 : cQ x = 0 := by unfold cQ; rw [if_neg hx]
    rw [List.length_append] at hc ⊢
    simp only [List.length_cons] at hc
    omega

theorem giveN_qok {js : List PJ} {qs : List Nat} (now : Int) (h : QOK js qs) : ∀ n, n ≤ js.length → QOK (giveN now js n).1 qs := by
  intro n
  induction n with
  | zero => intro _; exact h
  | succ n ih =>
    intro hn
    have h1 := ih (by omega)
    have hl := giveN_len now js n
    unfold giveN
    split
    · rename_i hc
      have hi : n < (giveN now js n).1.length := by omega
      have h0 : (giveN now js n).1[n].st = 0 := by
        unfold heldB at hc
        rw [getD_get hi] at hc
        simp at hc
        exact hc.1
      rw [getD_get hi]
      exact h1.set n hi _ (by rw [h0]; simp [PJ.toEn, PJ.toSt])
    · exact h1
theorem moveN_qok {js : List PJ} {qs : List Nat} (nodes : Nat) (now : Int) (h : QOK js qs) : ∀ n, n ≤ qs.length → QOK (moveN nodes now qs js n).1 qs := by
  intro n
  induction n with
  | zero => intro _; exact h
  | succ n ih =>
    intro hn
    have h1 := ih (by omega)
    have hl := moveN_len nodes now qs js n
    unfold moveN
    split
    · have hq : qs.getD n 0 < (moveN nodes now qs js n).1.length := by
        have e : qs.getD n 0 = qs[n] := by simp [show n < qs.length by omega]
        rw [e, hl]; exact h.lt _ (List.getElem_mem _)
      rw [getD_get hq]
      exact h1.set _ hq _ Iff.rfl
    · exact h1

/-- queueUp. -/
def queN (p : PS) : Nat → List PJ × List Nat
  | 0 => (p.js, p.qs)
  | n + 1 => if heldB (queN p n).1 n 1 = true then ((queN p n).1.set n ((((queN p n).1.getD n pj0).toSt 1).toSa (earlF (queN p n).1 p.nodes n p.now)), (queN p n).2 ++ [n]) else queN p n
def queueUpF (p : PS) : PS := { p with js := (queN p p.js.length).1, qs := (queN p p.js.length).2 }
theorem queN_len (p : PS) : ∀ n, (queN p n).1.length = p.js.length ∧ (queN p n).2.length ≤ p.qs.length + n := by
  intro n
  induction n with
  | zero => exact ⟨rfl, Nat.le_refl _⟩
  | succ n ih =>
    unfold queN
    split
    · simp [ih.1]; omega
    · exact ⟨ih.1, by omega⟩

theorem queN_ok {p : PS} (h : NOK p) (hQ : QOK p.js p.qs) : ∀ n, n ≤ p.js.length → NOK (p.withJ (queN p n).1) ∧ QOK (queN p n).1 (queN p n).2 := by
  intro n
  induction n with
  | zero => intro _; exact ⟨h, hQ⟩
  | succ n ih =>
    intro hn
    obtain ⟨h1, h2⟩ := ih (by omega)
    have hl := (queN_len p n).1
    unfold queN
    split
    · rename_i hc
      have hi : n < (queN p n).1.length := by omega
      have h0 : (queN p n).1[n].st = 0 := by
        unfold heldB at hc
        rw [getD_get hi] at hc
        simp at hc
        exact hc.1
      have hj := h1.js _ (List.getElem_mem (show n < (p.withJ (queN p n).1).js.length from hi))
      have he := h1.early n
      have hlo := h.lo
      rw [getD_get hi]
      change p.now ≤ earlF (queN p n).1 p.nodes n p.now ∧ earlF (queN p n).1 p.nodes n p.now ≤ p.now + (sumT (queN p n).1 : Int) at he
      refine ⟨h1.set n hi _ (by show 1 ≤ 6; omega) rfl rfl rfl ?_ he.2 ?_ (by intro q; simp [PJ.toSt, PJ.toSa] at q), h2.push n hi _ rfl (by omega)⟩
      · show -1 ≤ earlF (queN p n).1 p.nodes n p.now
        omega
      · intro q
        show earlF (queN p n).1 p.nodes n p.now + ((queN p n).1[n].tm : Int) ≤ p.now + (sumT (queN p n).1 : Int) + (if (queN p n).1[n].st = 0 then ((queN p n).1[n].tm : Int) else 0)
        rw [if_pos h0]
        omega
    · exact ⟨h1, h2⟩

/-- begin. -/
def begN (now : Int) (qs : List Nat) (js : List PJ) : Nat → List PJ × List Nat
  | 0 => (js, [])
  | n + 1 => if ((begN now qs js n).1.getD (qs.getD n 0) pj0).sa = now then ((begN now qs js n).1.set (qs.getD n 0) (((begN now qs js n).1.getD (qs.getD n 0) pj0).toSt 2), (begN now qs js n).2) else ((begN now qs js n).1, (begN now qs js n).2 ++ [qs.getD n 0])
def beginF (p : PS) : PS := { p with js := (begN p.now p.qs p.js p.qs.length).1, qs := (begN p.now p.qs p.js p.qs.length).2 }
theorem begN_len (now : Int) (qs : List Nat) (js : List PJ) : ∀ n, (begN now qs js n).1.length = js.length ∧ (begN now qs js n).2.length ≤ n := by
  intro n
  induction n with
  | zero => exact ⟨rfl, Nat.le_refl _⟩
  | succ n ih =>
    unfold begN
    split
    · simp [ih.1]; omega
    · simp [ih.1]; omega

theorem begN_ok {p : PS} (h : NOK p) (hQ : QOK p.js p.qs) : ∀ n, n ≤ p.qs.length → NOK (p.withJ (begN p.now p.qs p.js n).1) ∧ QOK (begN p.now p.qs p.js n).1 ((begN p.now p.qs p.js n).2 ++ p.qs.drop n) := by
  intro n
  induction n with
  | zero => intro _; exact ⟨h, by unfold begN; simpa using hQ⟩
  | succ n ih =>
    intro hn
    obtain ⟨h1, h2⟩ := ih (by omega)
    have hl := (begN_len p.now p.qs p.js n).1
    have hd : p.qs.drop n = p.qs.getD n 0 :: p.qs.drop (n + 1) := by
      rw [List.drop_eq_getElem_cons (by omega)]
      simp [show n < p.qs.length by omega]
    rw [hd] at h2
    have hi := h2.lt (p.qs.getD n 0) (by simp)
    have h0 := h2.q1 (p.qs.getD n 0) (by simp)
    unfold begN
    split
    · generalize p.qs.getD n 0 = id at *
      have hj := h1.js _ (List.getElem_mem (show id < (p.withJ (begN p.now p.qs p.js n).1).js.length from hi))
      have hm := h1.sa _ (List.getElem_mem (show id < (p.withJ (begN p.now p.qs p.js n).1).js.length from hi))
      have hov := h1.ov _ (List.getElem_mem (show id < (p.withJ (begN p.now p.qs p.js n).1).js.length from hi))
      rw [getD_get hi] at h0 ⊢
      refine ⟨h1.set id hi _ (by show 2 ≤ 6; omega) rfl rfl rfl hj.lo hm ?_ (by intro q; simp [PJ.toSt] at q), h2.pop hi _ (by simp [PJ.toSt])⟩
      intro q
      have := hov (by show hasS (begN p.now p.qs p.js n).1[id] = true; unfold hasS; rw [h0]; rfl)
      change overJ (begN p.now p.qs p.js n).1[id] ≤ p.now + (sumT (begN p.now p.qs p.js n).1 : Int) at this
      show overJ (begN p.now p.qs p.js n).1[id] ≤ p.now + (sumT (begN p.now p.qs p.js n).1 : Int) + _
      split <;> omega
    · exact ⟨h1, by simpa using h2⟩

def settleF (p : PS) : PS := beginF (queueUpF (moveUpF (giveUpF p)))

/-- Pass. -/
def passN (now : Int) (js : List PJ) : Nat → List PJ
  | 0 => js
  | n + 1 => if ((passN now js n).getD n pj0).st = 2 ∧ overJ ((passN now js n).getD n pj0) = now then (passN now js n).set n ((((passN now js n).getD n pj0).toSt 4).toEn now) else passN now js n
def passF (p : PS) : PS := settleF { p with now := p.now + 1, js := passN (p.now + 1) p.js p.js.length }
end Go.Proofs.YtanknpmojblmcaaGreatDoor

/-
  What the pool does keeps its numbers small, and the queue in order.
-/
set_option linter.unusedSimpArgs false
set_option linter.unusedVariables false
namespace Go.Proofs.YtanknpmojblmcaaGreatDoor

structure POK (p : PS) : Prop where
  n : NOK p
  q : QOK p.js p.qs
theorem POK.ql {p : PS} (h : POK p) : p.qs.length ≤ 24 := h.q.ln h.n.ln

theorem giveF_ok : ∀ (k : Nat) (p : PS), POK p → POK (p.withJ (giveF p.now k p.js)) := by
  intro k
  induction k with
  | zero => intro p h; exact h
  | succ k ih =>
    intro p h
    have h1 : POK (p.withJ (giveN p.now p.js p.js.length).1) := ⟨giveN_ok h.n _ (Nat.le_refl _), giveN_qok _ h.q _ (Nat.le_refl _)⟩
    unfold giveF
    split
    · exact ih _ h1
    · exact h1
theorem giveUpF_ok {p : PS} (h : POK p) : POK (giveUpF p) := giveF_ok _ p h

theorem moveF_ok : ∀ (k : Nat) (p : PS), POK p → POK (p.withJ (moveF p.nodes p.now p.qs k p.js)) := by
  intro k
  induction k with
  | zero => intro p h; exact h
  | succ k ih =>
    intro p h
    have h1 : POK (p.withJ (moveN p.nodes p.now p.qs p.js p.qs.length).1) := ⟨moveN_ok h.n h.q.lt _ (Nat.le_refl _), moveN_qok _ _ h.q _ (Nat.le_refl _)⟩
    unfold moveF
    split
    · exact ih _ h1
    · exact h1
theorem moveUpF_ok {p : PS} (h : POK p) : POK (moveUpF p) := moveF_ok _ p h
theorem queueUpF_ok {p : PS} (h : POK p) : POK (queueUpF p) := by
  obtain ⟨h1, h2⟩ := queN_ok h.n h.q p.js.length (Nat.le_refl _)
  exact ⟨⟨h1.js, h1.ln, h1.nd, h1.lo, h1.hi, h1.sa, h1.ov⟩, h2⟩
theorem beginF_ok {p : PS} (h : POK p) : POK (beginF p) := by
  obtain ⟨h1, h2⟩ := begN_ok h.n h.q p.qs.length (Nat.le_refl _)
  refine ⟨⟨h1.js, h1.ln, h1.nd, h1.lo, h1.hi, h1.sa, h1.ov⟩, ?_⟩
  rw [List.drop_length, List.append_nil] at h2
  exact h2
theorem settleF_ok {p : PS} (h : POK p) : POK (settleF p) := beginF_ok (queueUpF_ok (moveUpF_ok (giveUpF_ok h)))

theorem passN_len (now : Int) (js : List PJ) : ∀ n, (passN now js n).length = js.length := by
  intro n
  induction n with
  | zero => rfl
  | succ n ih => unfold passN; split <;> simp [ih]
theorem passN_ok {p : PS} (h : POK p) : ∀ n, n ≤ p.js.length → POK (p.withJ (passN p.now p.js n)) := by
  intro n
  induction n with
  | zero => intro _; exact h
  | succ n ih =>
    intro hn
    have h1 := ih (by omega)
    have hl := passN_len p.now p.js n
    unfold passN
    split
    · rename_i hc
      have hi : n < (passN p.now p.js n).length := by omega
      have hm := h1.n.sa _ (List.getElem_mem (show n < (p.withJ (passN p.now p.js n)).js.length from hi))
      have hj := h1.n.js _ (List.getElem_mem (show n < (p.withJ (passN p.now p.js n)).js.length from hi))
      rw [getD_get hi] at hc ⊢
      exact ⟨h1.n.set n hi _ (by show 4 ≤ 6; omega) rfl rfl rfl hj.lo hm (by intro q; simp [hasS, PJ.toEn, PJ.toSt] at q) (by intro q; simp [PJ.toEn, PJ.toSt] at q), h1.q.set n hi _ (by
        show 4 = 1 ↔ (passN p.now p.js n)[n].st = 1
        rw [hc.1]; simp)⟩
    · exact h1
theorem later_ok {p : PS} (h : POK p) (hn : p.now < 5000) : POK { p with now := p.now + 1 } :=
  ⟨⟨h.n.js, h.n.ln, h.n.nd, by have := h.n.lo; show 0 ≤ p.now + 1; omega, by show p.now + 1 ≤ 5000; omega, fun j hj => by have := h.n.sa j hj; show j.sa ≤ p.now + 1 + (sumT p.js : Int); omega, fun j hj hh => by have := h.n.ov j hj hh; show overJ j ≤ p.now + 1 + (sumT p.js : Int); omega⟩, h.q⟩
theorem passF_ok {p : PS} (h : POK p) (hn : p.now < 5000) : POK (passF p) := settleF_ok (passN_ok (later_ok h hn) _ (Nat.le_refl _))

theorem giveF_now (k : Nat) (p : PS) : (giveUpF p).now = p.now ∧ (giveUpF p).nodes = p.nodes ∧ (giveUpF p).gs = p.gs ∧ (giveUpF p).qs = p.qs := ⟨rfl, rfl, rfl, rfl⟩
theorem settleF_now (p : PS) : (settleF p).now = p.now := rfl
theorem settleF_nodes (p : PS) : (settleF p).nodes = p.nodes := rfl
theorem settleF_gs (p : PS) : (settleF p).gs = p.gs := rfl

def endP (p : PS) (id st : Nat) : PS := p.withJ (p.js.set id (((p.js.getD id pj0).toSt st).toEn p.now))
def leaveP (p : PS) (id : Nat) : PS := { p with js := p.js.set id ((p.js.getD id pj0).toSa (-1)), qs := p.qs.filter (fun k => k ≠ id) }
def hasP (p : PS) (id : Int) : Bool := decide (0 ≤ id) && decide (id < (p.js.length : Int))
def finishF (p : PS) (id : Int) (ok : Bool) : PS × Nat :=
  if hasP p id = false then (p, 11) else if (p.js.getD id.toNat pj0).st ≠ 2 then (p, 12) else (settleF (endP p id.toNat (if ok then 3 else 4)), 0)
def cancelF (p : PS) (id : Int) : PS × Nat :=
  if hasP p id = false then (p, 11) else if 3 ≤ (p.js.getD id.toNat pj0).st then (p, 12) else (settleF (endP (if (p.js.getD id.toNat pj0).st = 1 then leaveP p id.toNat else p) id.toNat 5), 0)
def tickN (p : PS) : Nat → PS
  | 0 => p
  | n + 1 => passF (tickN p n)
def tickF (p : PS) (n : Int) : PS × Nat :=
  if n < 1 ∨ 200 < n then (p, 10) else if 3000 < p.now + n then (p, 13) else (tickN p n.toNat, 0)

theorem filter_split {i : Nat} : ∀ {qs : List Nat}, qs.Nodup → i ∈ qs → ∃ A B, qs = A ++ i :: B ∧ qs.filter (fun k => k ≠ i) = A ++ B := by
  intro qs
  induction qs with
  | nil => intro _ h; simp at h
  | cons a r ih =>
    intro hn hi
    rw [List.nodup_cons] at hn
    by_cases e : a = i
    · subst e
      refine ⟨[], r, rfl, ?_⟩
      have : r.filter (fun k => k ≠ a) = r := by
        rw [List.filter_eq_self]
        intro x hx
        simp
        exact fun e => hn.1 (e ▸ hx)
      simp [this]
      simpa using this
    · have hi' : i ∈ r := by
        rcases List.mem_cons.mp hi with h | h
        · exact absurd h.symm e
        · exact h
      obtain ⟨A, B, h1, h2⟩ := ih hn.2 hi'
      refine ⟨a :: A, B, by rw [h1]; rfl, ?_⟩
      rw [List.filter_cons]
      simp only [decide_eq_true_eq, ne_eq, e, not_false_eq_true, if_true]
      simp only [ne_eq] at h2
      rw [h2]; rfl

theorem endP_ok {p : PS} (h : POK p) (id st : Nat) (hid : id < p.js.length) (h0 : (p.js.getD id pj0).st ≠ 1) (h1 : st ≤ 6) (h2 : 3 ≤ st) : POK (endP p id st) := by
  unfold endP
  have hm := h.n.sa _ (List.getElem_mem hid)
  have hj := h.n.js _ (List.getElem_mem hid)
  rw [getD_get hid] at h0 ⊢
  have a1 : hasS ((p.js[id].toSt st).toEn p.now) = false := by
    simp [hasS, PJ.toEn, PJ.toSt]; omega
  refine ⟨h.n.set id hid _ h1 rfl rfl rfl hj.lo hm (by rw [a1]; simp) ?_, h.q.set id hid _ ?_⟩
  · intro q
    change st = 0 at q
    omega
  · constructor
    · intro q; change st = 1 at q; omega
    · intro q; exact absurd q h0
theorem leaveP_ok {p : PS} (h : POK p) (id : Nat) (hid : id < p.js.length) (h0 : (p.js.getD id pj0).st = 1) : POK (endP (leaveP p id) id 5) := by
  have hmem := h.q.al id hid h0
  obtain ⟨A, B, e1, e2⟩ := filter_split h.q.nd hmem
  have hm := h.n.sa _ (List.getElem_mem hid)
  have hj := h.n.js _ (List.getElem_mem hid)
  have hlo := h.n.lo
  have eq : endP (leaveP p id) id 5 = { p with js := p.js.set id (((p.js[id].toSa (-1)).toSt 5).toEn p.now), qs := A ++ B } := by
    unfold endP leaveP PS.withJ
    simp only [e2]
    congr 1
    rw [getD_set hid, if_pos rfl, List.set_set, getD_get hid]
  rw [eq]
  have hN := h.n.set id hid (((p.js[id].toSa (-1)).toSt 5).toEn p.now) (by show 5 ≤ 6; omega) rfl rfl rfl (by show -1 ≤ -1; omega) (by show -1 ≤ p.now + (sumT p.js : Int); omega) (by intro q; simp [hasS, PJ.toEn, PJ.toSt] at q) (by intro q; simp [PJ.toEn, PJ.toSt] at q)
  have hq := h.q
  rw [e1] at hq
  exact ⟨⟨hN.js, hN.ln, hN.nd, hN.lo, hN.hi, hN.sa, hN.ov⟩, hq.pop hid _ (by simp [PJ.toEn, PJ.toSt])⟩

theorem has_lt {p : PS} {id : Int} (h : ¬ hasP p id = false) : 0 ≤ id ∧ id.toNat < p.js.length ∧ ((id.toNat : Nat) : Int) = id := by
  unfold hasP at h
  simp at h
  omega
theorem finishF_ok {p : PS} (h : POK p) (id : Int) (ok : Bool) : POK (finishF p id ok).1 := by
  unfold finishF
  split
  · exact h
  · rename_i h1
    obtain ⟨_, h2, _⟩ := has_lt h1
    split
    · exact h
    · rename_i h3
      simp only [ne_eq, Decidable.not_not] at h3
      exact settleF_ok (endP_ok h _ _ h2 (by rw [h3]; decide) (by split <;> omega) (by split <;> omega))
theorem cancelF_ok {p : PS} (h : POK p) (id : Int) : POK (cancelF p id).1 := by
  unfold cancelF
  split
  · exact h
  · rename_i h1
    obtain ⟨_, h2, _⟩ := has_lt h1
    split
    · exact h
    · rename_i h3
      by_cases h4 : (p.js.getD id.toNat pj0).st = 1
      · simp only [h4, if_true]
        exact settleF_ok (leaveP_ok h _ h2 h4)
      · simp only [h4, if_false]
        exact settleF_ok (endP_ok h _ _ h2 h4 (by omega) (by omega))
theorem tickN_ok {p : PS} (h : POK p) : ∀ n : Nat, p.now + (n : Int) ≤ 5000 → POK (tickN p n) ∧ (tickN p n).now = p.now + (n : Int) := by
  intro n
  induction n with
  | zero => intro _; exact ⟨h, by simp [tickN]⟩
  | succ n ih =>
    intro hn
    obtain ⟨h1, h2⟩ := ih (by omega)
    refine ⟨passF_ok h1 (by omega), ?_⟩
    show (tickN p n).now + 1 = _
    rw [h2]; omega
theorem tickF_ok {p : PS} (h : POK p) (n : Int) : POK (tickF p n).1 := by
  unfold tickF
  split
  · exact h
  · split
    · exact h
    · exact (tickN_ok h n.toNat (by omega)).1
end Go.Proofs.YtanknpmojblmcaaGreatDoor

/-
  Package pool: whether a job is Held and has a value.
-/
set_option linter.unusedSimpArgs false
set_option linter.unusedVariables false
namespace Go.Proofs.YtanknpmojblmcaaGreatDoor
open Go.RowKit

variable {D : Nat → Prop} {s : Nat} {p : PS} {gv jv qv : Value} {w w' : World}

theorem ints_st {w : World} {base : Nat} {v : Value} {js : List PJ} (h : w.ownsRow base 3 1 v js.length (sttL js)) : IntsB w.heap.size v (stI js) w := by
  have hl : (stI js).length = js.length := by simp [stI]
  rcases h.2 with ⟨hv, hn⟩ | ⟨g, cap, cur, hv, h1, h2, h3, h4, h5, h6⟩
  · exact Or.inl ⟨hv, List.eq_nil_of_length_eq_zero (by omega)⟩
  · right
    subst hv
    refine ⟨g, cap, by rw [hl], by omega, whole_lt h2, ?_⟩
    intro k hk
    rw [h.cellAt k (by omega)]
    simp [sttL, stI, iV, show k < js.length by omega]

theorem beq_dec (a b : Nat) : ((a : Int) == (b : Int)) = decide (a = b) := by
  by_cases h : a = b
  · subst h; simp
  · have h' : (a : Int) ≠ (b : Int) := by omega
    simp [h, h']

set_option maxRecDepth 100000 in
set_option maxHeartbeats 1000000 in
theorem plIsHeld (h : SM D s p gv jv qv w) (hN : NOK p) (id v : Nat) (hid : id < p.js.length) (hv : v ≤ 2) :
    Calls Tryz.prog 90 #[.pointer (some ⟨s, 1, none⟩), .int .i64 (id : Int), .int .i64 (v : Int)] w fun e w' => e = .returned (.bool (heldB p.js id v)) ∧ Below w.heap.size w w' := by
  have HN : Hid (NOK p) := hN
  have hl := hN.ln
  obtain ⟨g, cap, rfl⟩ := h.jform hid
  have HS : Hid (SM D s p gv (.slice (some ⟨g, 0, none⟩) p.js.length cap) qv w) := h
  have c3 := h.pl.c 3
  simp at c3
  obtain ⟨l0, l1, l2, l3, l4, l5⟩ := h.jc hid
  have hj := hN.js _ (List.getElem_mem hid)
  have hst := hj.st
  have hcd := hj.cd
  clear h hN hj l2 l3 l4 l5
  have HE : Hid (heldB p.js id v = (decide (p.js[id].st = 0) && decide ((runE p.js[id].code (stI p.js)).1 = v))) := by
    show _ = _
    unfold heldB valJ
    rw [getD_get hid]
  by_cases h0 : p.js[id].st = 0
  · rw [h0] at l1
    have HE2 : Hid (heldB p.js id v = (((runE p.js[id].code (stI p.js)).1 : Int) == (v : Int))) := by
      show _ = _
      rw [HE.out, h0, beq_dec]
      simp
    go_enter Tryz.func90, Tryz.ntmps90
    go_wp2_with fail
    refine (plStates s gv p.nodes p.now _ qv p.js w HS.out.pl (Ps.of HS.out.jr) (by omega) HN.out.pj).mono ?_
    rintro e w1 ⟨x, rfl, hown, hB⟩
    have c3' := (hB.cell (p := ⟨s, 3, none⟩) HS.out.pl.lt).trans c3
    have l0' := (hB.cell (p := ⟨g, id * 6, none⟩) (HS.out.jr.lt g rfl).2).trans l0
    have HB : Hid (Below w.heap.size w w1) := hB
    have HI : Hid (IntsB w1.heap.size x (stI p.js) w1) := ints_st hown
    clear hown hB c3 l0 l1
    go_wp2_with fail
    have HBS : Hid ((bs p.js[id].code).data.toList = p.js[id].code) := by show _ = _; simp [bs]
    refine (Run_any _ x (stI p.js) w1 HI.out (by rw [bs_size]; unfold maxLen; omega)).mono ?_
    rintro e w2 ⟨rfl, hB2⟩
    have HB2 : Hid (Below w.heap.size w w2) := HB.out.trans (hB2.mono HB.out.size)
    clear hB2
    rw [HBS.out]
    go_wp2_with fail
    go_ret
    exact ⟨by rw [HE2.out]; rfl, HB2.out⟩
  · have h0' : ((p.js[id].st : Int) == 0) = false := by rw [beq_eq_false_iff_ne]; omega
    go_enter Tryz.func90, Tryz.ntmps90
    go_wp2_with fail
    go_ret
    exact ⟨by rw [HE.out]; simp [h0], Below.refl _ _⟩
end Go.Proofs.YtanknpmojblmcaaGreatDoor

/-
  Package pool: queued jobs move up.
-/
set_option linter.unusedSimpArgs false
set_option linter.unusedVariables false
namespace Go.Proofs.YtanknpmojblmcaaGreatDoor
open Go.RowKit

variable {D : Nat → Prop} {s : Nat} {p : PS} {gv jv qv : Value} {w w' : World}

theorem getD_q {qs : List Nat} {n : Nat} (h : n < qs.length) : qs.getD n 0 = qs[n] := by simp [h]

set_option maxRecDepth 100000 in
set_option maxHeartbeats 1000000 in
theorem plMoveEach (h : SM D s p gv jv qv w) (hP : POK p) :
    Calls Tryz.prog 92 #[.pointer (some ⟨s, 1, none⟩)] w fun e w' => e = .returned (.bool (moveN p.nodes p.now p.qs p.js p.qs.length).2) ∧ SM D s (p.withJ (moveN p.nodes p.now p.qs p.js p.qs.length).1) gv jv qv w' ∧ Keep D w w' := by
  have HP : Hid (POK p) := hP
  have hl := hP.n.ln
  have hql := hP.ql
  have hn8 := hP.n.nd; have n1 := hP.n.lo; have n2 := hP.n.hi
  clear hP
  obtain ⟨a, c, rfl⟩ := (Ns.of h.qr).form
  have HS : Hid (SM D s p gv jv (.slice a p.qs.length c) w) := h
  have c4 := h.pl.c 4
  simp at c4
  clear h
  go_enter Tryz.func92, Tryz.ntmps92
  go_wp2_with fail
  go_loopg [3, 12] (p.qs.length + 1) (fun r mv x wr => ∃ (n : Nat) (wz : World), wz = wr ∧ n ≤ p.qs.length ∧ r = p.qs.length - n + 1 ∧ x = .int .i64 (n : Int) ∧ mv = .bool (moveN p.nodes p.now p.qs p.js n).2 ∧ Hid (SM D s (p.withJ (moveN p.nodes p.now p.qs p.js n).1) gv jv (.slice a p.qs.length c) wz) ∧ Hid (Keep D w wz))
  case atStart => exact ⟨0, _, rfl, Nat.zero_le _, rfl, rfl, rfl, HS, Keep.refl _ _⟩
  case round =>
    obtain ⟨n, wz, rfl, hn, rfl, rfl, rfl, H1, K1⟩ := hrel
    by_cases hlt : n < p.qs.length
    · have hlt' : (n : Int) < (p.qs.length : Int) := by omega
      have HN := moveN_ok HP.out.n HP.out.q.lt n hn
      have HSU : Hid (moveN p.nodes p.now p.qs p.js (n + 1) = if earlF (moveN p.nodes p.now p.qs p.js n).1 p.nodes p.qs[n] p.now < ((moveN p.nodes p.now p.qs p.js n).1.getD p.qs[n] pj0).sa then ((moveN p.nodes p.now p.qs p.js n).1.set p.qs[n] (((moveN p.nodes p.now p.qs p.js n).1.getD p.qs[n] pj0).toSa (earlF (moveN p.nodes p.now p.qs p.js n).1 p.nodes p.qs[n] p.now)), true) else moveN p.nodes p.now p.qs p.js n) := by
        show _ = _
        rw [← getD_q hlt]; rfl
      have hqn : p.qs[n] < (moveN p.nodes p.now p.qs p.js n).1.length := by rw [moveN_len]; exact HP.out.q.lt _ (List.getElem_mem hlt)
      have hl' : (moveN p.nodes p.now p.qs p.js n).1.length ≤ 24 := by rw [moveN_len]; exact hl
      rcases Ns.of H1.out.qr with ⟨_, he⟩ | ⟨b, cap, hv, hcap, hb, hcell⟩
      · rw [show p.qs = [] from he] at hlt; simp at hlt
      cases hv
      have l0 := hcell n hlt
      change wz.cell? ⟨b, n, none⟩ = some (.int .i64 (p.qs[n] : Int)) at l0
      clear hcell
      generalize moveN p.nodes p.now p.qs p.js n = Y at *
      obtain ⟨X, mb⟩ := Y
      dsimp only at *
      generalize p.qs[n] = id at *
      obtain ⟨g, cp, rfl⟩ := H1.out.jform (id := id) hqn
      go_wp2_with fail
      refine (plEarliest s gv p.nodes p.now _ _ X id wz H1.out.pl (Ps.of H1.out.jr) (by show X.length ≤ 1000; omega) HN.pj hqn hn8 n1 n2).mono ?_
      rintro e x1 ⟨rfl, hB1⟩
      have H2 : Hid (SM D s (p.withJ X) gv (.slice (some ⟨g, 0, none⟩) X.length cp) (.slice (some ⟨b, 0, none⟩) p.qs.length c) x1) := H1.out.below hB1
      have K2 : Hid (Keep D w x1) := K1.out.trans (H1.out.keep hB1)
      have c3 := H2.out.pl.c 3
      obtain ⟨_, _, _, _, l4, _⟩ := H2.out.jc (k := id) hqn
      have z4 := H2.out.jr.frozenAt (id * 6 + 4)
      change x1.cell? ⟨s, 3, none⟩ = some (.slice (some ⟨g, 0, none⟩) X.length cp) at c3
      change x1.cell? ⟨g, id * 6 + 4, none⟩ = some (.int .i64 X[id].sa) at l4
      have HG : Hid (X.getD id pj0 = X[id]) := getD_get hqn
      rw [HG.out] at HSU
      clear hB1 l0 hb H1 K1
      have HT : Hid (SM D s (p.withJ (X.set id (X[id].toSa (earlF X p.nodes id p.now)))) gv (.slice (some ⟨g, 0, none⟩) X.length cp) (.slice (some ⟨b, 0, none⟩) p.qs.length c) (x1.setCell ⟨g, id * 6 + 4, none⟩ (.int .i64 (earlF X p.nodes id p.now)))) := H2.out.setJ id 4 (by omega) (.int .i64 (earlF X p.nodes id p.now)) (X[id].toSa (earlF X p.nodes id p.now)) hqn rfl
      have KT : Hid (Keep D w (x1.setCell ⟨g, id * 6 + 4, none⟩ (.int .i64 (earlF X p.nodes id p.now)))) := K2.out.setCell (H2.out.dj g rfl) _
      generalize X[id].toSa (earlF X p.nodes id p.now) = j1 at *
      generalize earlF X p.nodes id p.now = t at *
      generalize X[id].sa = t0 at *
      by_cases hs : t < t0
      · rw [if_pos hs] at HSU
        go_wp2_with fail
        go_roundg (p.qs.length - (n + 1) + 1)
        case measure => omega
        case rel => exact ⟨n + 1, _, rfl, by omega, rfl, by go_num, by rw [HSU.out], by rw [HSU.out]; exact HT, KT⟩
      · rw [if_neg hs] at HSU
        go_wp2_with fail
        go_roundg (p.qs.length - (n + 1) + 1)
        case measure => omega
        case rel => exact ⟨n + 1, _, rfl, by omega, rfl, by go_num, by rw [HSU.out], by rw [HSU.out]; exact H2, K2⟩
    · have hlt' : ¬ (n : Int) < (p.qs.length : Int) := by omega
      have hnl : n = p.qs.length := by omega
      subst hnl
      go_wp2_with fail
      go_ret
      exact ⟨rfl, H1.out, K1.out⟩
end Go.Proofs.YtanknpmojblmcaaGreatDoor

/-
  Package pool: moveUp, giveUp.
-/
set_option linter.unusedSimpArgs false
set_option linter.unusedVariables false
namespace Go.Proofs.YtanknpmojblmcaaGreatDoor
open Go.RowKit

variable {D : Nat → Prop} {s : Nat} {p : PS} {gv jv qv : Value} {w w' : World}

set_option maxRecDepth 100000 in
set_option maxHeartbeats 1000000 in
theorem plMoveUp (h : SM D s p gv jv qv w) (hP : POK p) :
    Calls Tryz.prog 52 #[.pointer (some ⟨s, 1, none⟩)] w fun e w' => e = .returned (.tuple #[]) ∧ SM D s (moveUpF p) gv jv qv w' ∧ Keep D w w' := by
  have HP : Hid (POK p) := hP
  have HS : Hid (SM D s p gv jv qv w) := h
  clear h hP
  obtain ⟨F, hF⟩ : ∃ F, F = moveF p.nodes p.now p.qs (sumS p.js + 1) p.js := ⟨_, rfl⟩
  have HF : Hid (moveUpF p = p.withJ F) := by show _ = _; rw [hF]; rfl
  go_enter Tryz.func52, Tryz.ntmps52
  go_wp2_with fail
  go_loopg [2] (sumS p.js + 2) (fun r x wr => ∃ (b : Bool) (X : List PJ) (wz : World), wz = wr ∧ x = .bool b ∧ r = (if b = true then sumS X + 2 else 1) ∧ Hid (POK (p.withJ X)) ∧ Hid (SM D s (p.withJ X) gv jv qv wz) ∧ Hid (Keep D w wz) ∧ Hid (if b = true then ∃ k, sumS X ≤ k ∧ F = moveF p.nodes p.now p.qs (k + 1) X else F = X))
  case atStart => exact ⟨true, p.js, _, rfl, rfl, rfl, HP, HS, Keep.refl _ _, ⟨sumS p.js, Nat.le_refl _, hF⟩⟩
  case round =>
    obtain ⟨b, X, wz, rfl, rfl, rfl, H1, H2, K2, HE⟩ := hrel
    clear hF
    cases b with
    | true =>
      go_wp2_with fail
      refine (plMoveEach H2.out H1.out).mono ?_
      rintro e x1 ⟨he, h3, k3⟩
      change e = .returned (.bool (moveN p.nodes p.now p.qs X p.qs.length).2) at he
      have H3 : Hid (SM D s (p.withJ (moveN p.nodes p.now p.qs X p.qs.length).1) gv jv qv x1) := h3
      have K3 : Hid (Keep D w x1) := K2.out.trans k3
      have HO : Hid (POK (p.withJ (moveN p.nodes p.now p.qs X p.qs.length).1)) := ⟨moveN_ok H1.out.n H1.out.q.lt _ (Nat.le_refl _), moveN_qok _ _ H1.out.q _ (Nat.le_refl _)⟩
      have hsum := (moveN_sum H1.out.n H1.out.q.lt p.qs.length (Nat.le_refl _)).2
      change (moveN p.nodes p.now p.qs X p.qs.length).2 = true → sumS (moveN p.nodes p.now p.qs X p.qs.length).1 < sumS X at hsum
      have HE' := HE.out
      simp only [if_true] at HE'
      obtain ⟨k, hk, hF⟩ := HE'
      have HF2 : Hid (F = if (moveN p.nodes p.now p.qs X p.qs.length).2 = true then moveF p.nodes p.now p.qs k (moveN p.nodes p.now p.qs X p.qs.length).1 else (moveN p.nodes p.now p.qs X p.qs.length).1) := hF
      clear hF h3 k3 HE
      obtain ⟨Y, mb, hY⟩ : ∃ Y mb, moveN p.nodes p.now p.qs X p.qs.length = (Y, mb) := ⟨_, _, rfl⟩
      rw [hY] at H3 HO hsum HF2 he
      subst he
      clear hY
      go_wp2_with fail
      go_roundg (if mb = true then sumS Y + 2 else 1)
      case measure =>
        cases mb with
        | true => have := hsum rfl; simp; omega
        | false => simp
      case rel =>
        refine ⟨mb, Y, _, rfl, rfl, rfl, HO, H3, K3, ?_⟩
        cases mb with
        | true =>
          have hs := hsum rfl
          have hf := HF2.out
          simp only [if_true] at hf
          show ∃ k, sumS Y ≤ k ∧ F = moveF p.nodes p.now p.qs (k + 1) Y
          exact ⟨k - 1, by omega, by rw [hf, show k - 1 + 1 = k from by omega]⟩
        | false => exact HF2.out
    | false =>
      go_wp2_with fail
      go_end0
      have e : F = X := HE.out
      exact ⟨rfl, by rw [HF.out, e]; exact H2.out, K2.out⟩

set_option maxRecDepth 100000 in
set_option maxHeartbeats 1000000 in
theorem plGiveUp (h : SM D s p gv jv qv w) (hP : POK p) :
    Calls Tryz.prog 51 #[.pointer (some ⟨s, 1, none⟩)] w fun e w' => e = .returned (.tuple #[]) ∧ SM D s (giveUpF p) gv jv qv w' ∧ Keep D w w' := by
  have HP : Hid (POK p) := hP
  have HS : Hid (SM D s p gv jv qv w) := h
  have hln := hP.n.ln
  clear h hP
  obtain ⟨F, hF⟩ : ∃ F, F = giveF p.now (cntH p.js + 1) p.js := ⟨_, rfl⟩
  have HF : Hid (giveUpF p = p.withJ F) := by show _ = _; rw [hF]; rfl
  go_enter Tryz.func51, Tryz.ntmps51
  go_wp2_with fail
  go_loopg [2] (cntH p.js + 2) (fun r x wr => ∃ (b : Bool) (X : List PJ) (wz : World), wz = wr ∧ x = .bool b ∧ r = (if b = true then cntH X + 2 else 1) ∧ X.length = p.js.length ∧ Hid (POK (p.withJ X)) ∧ Hid (SM D s (p.withJ X) gv jv qv wz) ∧ Hid (Keep D w wz) ∧ Hid (if b = true then ∃ k, cntH X ≤ k ∧ F = giveF p.now (k + 1) X else F = X))
  case atStart => exact ⟨true, p.js, _, rfl, rfl, rfl, rfl, HP, HS, Keep.refl _ _, ⟨cntH p.js, Nat.le_refl _, hF⟩⟩
  case round =>
    obtain ⟨b, X, wz, rfl, rfl, rfl, hXl, H1, H2, K2, HE⟩ := hrel
    clear hF
    cases b with
    | true =>
      obtain ⟨a, c, rfl⟩ := (Ps.of H2.out.jr).form
      have c3 := H2.out.pl.c 3
      change wz.cell? ⟨s, 3, none⟩ = some (.slice a X.length c) at c3
      go_wp2_with fail
      have HL : Hid (∀ n, n ≤ X.length → POK (p.withJ (giveN p.now X n).1) ∧ (giveN p.now X n).1.length = X.length) := fun n hn => ⟨⟨giveN_ok H1.out.n n hn, giveN_qok _ H1.out.q n hn⟩, giveN_len _ _ _⟩
      go_loopg [2, 10] (X.length + 1) (fun r mv x wr => ∃ (n : Nat) (wy : World), wy = wr ∧ n ≤ X.length ∧ r = X.length - n + 1 ∧ x = .int .i64 (n : Int) ∧ mv = .bool (giveN p.now X n).2 ∧ Hid (SM D s (p.withJ (giveN p.now X n).1) gv (.slice a X.length c) qv wy) ∧ Hid (Keep D w wy))
      case atStart => exact ⟨0, _, rfl, Nat.zero_le _, rfl, rfl, rfl, H2, K2⟩
      case round =>
        obtain ⟨n, wy, rfl, hn, rfl, rfl, rfl, H3, K3⟩ := hrel
        by_cases hlt : n < X.length
        · have hlt' : (n : Int) < (X.length : Int) := by omega
          obtain ⟨hok, hle⟩ := HL.out n hn
          have HSU : Hid (giveN p.now X (n + 1) = if heldB (giveN p.now X n).1 n 2 = true then ((giveN p.now X n).1.set n ((((giveN p.now X n).1.getD n pj0).toSt 6).toEn p.now), true) else giveN p.now X n) := rfl
          generalize giveN p.now X n = Y at *
          obtain ⟨Y, mb⟩ := Y
          dsimp only at *
          have hnY : n < Y.length := by omega
          have HOK : Hid (POK (p.withJ Y)) := hok
          clear hok
          go_wp2_with fail
          refine (plIsHeld H3.out HOK.out.n n 2 hnY (by omega)).mono ?_
          rintro e x1 ⟨he, hB1⟩
          change e = .returned (.bool (heldB Y n 2)) at he
          have H4 : Hid (SM D s (p.withJ Y) gv (.slice a X.length c) qv x1) := H3.out.below hB1
          have K4 : Hid (Keep D w x1) := K3.out.trans (H3.out.keep hB1)
          clear hB1 H3 K3
          have HG : Hid (Y.getD n pj0 = Y[n]) := getD_get hnY
          cases hh : heldB Y n 2 with
          | true =>
            rw [hh] at he
            subst he
            rw [hh, if_pos rfl, HG.out] at HSU
            go_wp2_with fail
            refine (plEnd H4.out n 6 hnY (by show Y.length ≤ 24; omega)).mono ?_
            rintro e x2 ⟨rfl, h5, k5⟩
            have H5 : Hid (SM D s (p.withJ (Y.set n ((Y[n].toSt 6).toEn p.now))) gv (.slice a X.length c) qv x2) := h5
            have K5 : Hid (Keep D w x2) := K4.out.trans k5
            clear h5 k5
            go_wp2_with fail
            go_roundg (X.length - (n + 1) + 1)
            case measure => omega
            case rel => exact ⟨n + 1, _, rfl, by omega, rfl, by go_num, by rw [HSU.out], by rw [HSU.out]; exact H5, K5⟩
          | false =>
            rw [hh] at he
            subst he
            rw [hh, if_neg (by decide)] at HSU
            go_wp2_with fail
            go_roundg (X.length - (n + 1) + 1)
            case measure => omega
            case rel => exact ⟨n + 1, _, rfl, by omega, rfl, by go_num, by rw [HSU.out], by rw [HSU.out]; exact H4, K4⟩
        · have hlt' : ¬ (n : Int) < (X.length : Int) := by omega
          have hnl : n = X.length := by omega
          subst hnl
          have HO := (HL.out X.length (Nat.le_refl _))
          have hcnt := (giveN_cnt p.now X X.length (Nat.le_refl _)).2
          have HE' := HE.out
          simp only [if_true] at HE'
          obtain ⟨k, hk, hF⟩ := HE'
          have HF2 : Hid (F = if (giveN p.now X X.length).2 = true then giveF p.now k (giveN p.now X X.length).1 else (giveN p.now X X.length).1) := hF
          obtain ⟨Y, mb, hY⟩ : ∃ Y mb, giveN p.now X X.length = (Y, mb) := ⟨_, _, rfl⟩
          rw [hY] at H3 HO hcnt HF2 ⊢
          have HO1 : Hid (POK (p.withJ Y)) := HO.1
          have hYl := HO.2
          clear hY hF HE HO
          go_wp2_with fail
          go_roundg (if mb = true then cntH Y + 2 else 1)
          case measure =>
            cases mb with
            | true => have := hcnt rfl; simp; omega
            | false => simp
          case rel =>
            refine ⟨mb, Y, _, rfl, rfl, rfl, by omega, HO1, H3, K3, ?_⟩
            cases mb with
            | true =>
              have hs := hcnt rfl
              have hf := HF2.out
              simp only [if_true] at hf
              show ∃ k, cntH Y ≤ k ∧ F = giveF p.now (k + 1) Y
              exact ⟨k - 1, by omega, by rw [hf, show k - 1 + 1 = k from by omega]⟩
            | false => exact HF2.out
    | false =>
      go_wp2_with fail
      go_end0
      have e : F = X := HE.out
      exact ⟨rfl, by rw [HF.out, e]; exact H2.out, K2.out⟩
end Go.Proofs.YtanknpmojblmcaaGreatDoor

/-
  Package pool: queueUp, begin.
-/
set_option linter.unusedSimpArgs false
set_option linter.unusedVariables false
namespace Go.Proofs.YtanknpmojblmcaaGreatDoor
open Go.RowKit

variable {D : Nat → Prop} {s : Nat} {p : PS} {gv jv qv : Value} {w w' : World}

theorem ownsRow_frozen {w : World} {base : Nat} {e : TypeId} {size g n cap m : Nat} {xs : List Value} (h : w.ownsRow base e size (.slice (some ⟨g, 0, none⟩) n cap) m xs) (j : Nat) : w.frozen? ⟨g, j, none⟩ = false := by
  rcases h.2 with ⟨h', _⟩ | ⟨g', cap', cur, h', _, hg, _⟩
  · simp at h'
  · simp only [Value.slice.injEq, Option.some.injEq, Addr.mk.injEq, and_true, true_and] at h'
    obtain ⟨rfl, _⟩ := h'
    exact whole_frozen hg j

set_option maxRecDepth 100000 in
set_option maxHeartbeats 1000000 in
theorem plQueueUp (h : SM D s p gv jv qv w) (hP : POK p) :
    Calls Tryz.prog 53 #[.pointer (some ⟨s, 1, none⟩)] w fun e w' => e = .returned (.tuple #[]) ∧ (∃ qv', SM D s (queueUpF p) gv jv qv' w') ∧ Keep D w w' := by
  obtain ⟨i0, hI0, hz0, hz1, hz2⟩ := info_parts infoIntL
  have HP : Hid (POK p) := hP
  have HS : Hid (SM D s p gv jv qv w) := h
  have hln := hP.n.ln
  have hql := hP.ql
  have hn8 := hP.n.nd; have n1 := hP.n.lo; have n2 := hP.n.hi
  clear h hP
  obtain ⟨a, c, rfl⟩ := (Ps.of HS.out.jr).form
  have c3 := HS.out.pl.c 3
  change w.cell? ⟨s, 3, none⟩ = some (.slice a p.js.length c) at c3
  have HL : Hid (∀ n, n ≤ p.js.length → NOK (p.withJ (queN p n).1) ∧ QOK (queN p n).1 (queN p n).2 ∧ (queN p n).1.length = p.js.length) := fun n hn => ⟨(queN_ok HP.out.n HP.out.q n hn).1, (queN_ok HP.out.n HP.out.q n hn).2, (queN_len p n).1⟩
  go_enter Tryz.func53, Tryz.ntmps53
  go_wp2_with fail
  go_loopg [9] (p.js.length + 1) (fun r x wr => ∃ (n : Nat) (qx : Value) (wz : World), wz = wr ∧ n ≤ p.js.length ∧ r = p.js.length - n + 1 ∧ x = .int .i64 (n : Int) ∧ Hid (SM D s { p with js := (queN p n).1, qs := (queN p n).2 } gv (.slice a p.js.length c) qx wz) ∧ Hid (Keep D w wz))
  case atStart => exact ⟨0, _, _, rfl, Nat.zero_le _, rfl, rfl, HS, Keep.refl _ _⟩
  case round =>
    obtain ⟨n, qx, wz, rfl, hn, rfl, rfl, H1, K1⟩ := hrel
    by_cases hlt : n < p.js.length
    · have hlt' : (n : Int) < (p.js.length : Int) := by omega
      obtain ⟨hnk, hqk, hle⟩ := HL.out n hn
      have HSU : Hid (queN p (n + 1) = if heldB (queN p n).1 n 1 = true then ((queN p n).1.set n ((((queN p n).1.getD n pj0).toSt 1).toSa (earlF (queN p n).1 p.nodes n p.now)), (queN p n).2 ++ [n]) else queN p n) := rfl
      generalize queN p n = Y at *
      obtain ⟨Y, Q⟩ := Y
      dsimp only at *
      have hnY : n < Y.length := by omega
      have HNK : Hid (NOK { p with js := Y, qs := Q }) := ⟨hnk.js, hnk.ln, hnk.nd, hnk.lo, hnk.hi, hnk.sa, hnk.ov⟩
      have hQl : Q.length ≤ 24 := hqk.ln (by omega)
      clear hnk hqk
      go_wp2_with fail
      refine (plIsHeld H1.out HNK.out n 1 hnY (by omega)).mono ?_
      rintro e x1 ⟨he, hB1⟩
      change e = .returned (.bool (heldB Y n 1)) at he
      have H4 : Hid (SM D s { p with js := Y, qs := Q } gv (.slice a p.js.length c) qx x1) := H1.out.below hB1
      have K4 : Hid (Keep D w x1) := K1.out.trans (H1.out.keep hB1)
      clear hB1 H1 K1
      have HG : Hid (Y.getD n pj0 = Y[n]) := getD_get hnY
      cases hh : heldB Y n 1 with
      | true =>
        rw [hh] at he
        subst he
        rw [hh, if_pos rfl, HG.out] at HSU
        go_wp2_with fail
        refine (plEarliest s gv p.nodes p.now _ _ Y n x1 H4.out.pl (Ps.of H4.out.jr) (by omega) HNK.out.pj hnY hn8 n1 n2).mono ?_
        rintro e x2 ⟨rfl, hB2⟩
        have H5 : Hid (SM D s { p with js := Y, qs := Q } gv (.slice a p.js.length c) qx x2) := H4.out.below hB2
        have K5 : Hid (Keep D w x2) := K4.out.trans (H4.out.keep hB2)
        clear hB2 H4 K4
        obtain ⟨g, cp, hv⟩ := H5.out.jform (id := n) hnY
        change Value.slice a p.js.length c = .slice (some ⟨g, 0, none⟩) Y.length cp at hv
        rw [hle] at hv
        cases hv
        have c3' := H5.out.pl.c 3
        change x2.cell? ⟨s, 3, none⟩ = some (.slice (some ⟨g, 0, none⟩) p.js.length c) at c3'
        obtain ⟨_, l1, _, _, l4, _⟩ := H5.out.jc (k := n) hnY
        have z1 := ownsRow_frozen H5.out.jr (n * 6 + 1)
        change x2.cell? ⟨g, n * 6 + 1, none⟩ = some (.int .i64 (Y[n].st : Int)) at l1
        have z4 := ownsRow_frozen H5.out.jr (n * 6 + 4)
        change x2.cell? ⟨g, n * 6 + 4, none⟩ = some (.int .i64 Y[n].sa) at l4
        have H6 := (H5.out.setJ n 1 (by omega) (.int .i64 1) (Y[n].toSt 1) hnY rfl).setJ n 4 (by omega) (.int .i64 (earlF Y p.nodes n p.now)) ((Y[n].toSt 1).toSa (earlF Y p.nodes n p.now)) (by simpa using hnY) (by simp [pjC, PJ.toSt, PJ.toSa])
        have K6 : Hid (Keep D w ((x2.setCell ⟨g, n * 6 + 1, none⟩ (.int .i64 1)).setCell ⟨g, n * 6 + 1 + 3, none⟩ (.int .i64 (earlF Y p.nodes n p.now)))) := (K5.out.setCell (H5.out.dj g rfl) _).setCell (H5.out.dj g rfl) _
        simp only [List.set_set] at H6
        have H6' : SM D s { p with js := Y.set n ((Y[n].toSt 1).toSa (earlF Y p.nodes n p.now)), qs := Q } gv (.slice (some ⟨g, 0, none⟩) p.js.length c) qx ((x2.setCell ⟨g, n * 6 + 1, none⟩ (.int .i64 1)).setCell ⟨g, n * 6 + 1 + 3, none⟩ (.int .i64 (earlF Y p.nodes n p.now))) := H6
        clear H6 H5 K5
        obtain ⟨qa, qc, rfl⟩ := (Ns.of H6'.qr).form
        have c4 := H6'.pl.c 4
        change World.cell? _ ⟨s, 4, none⟩ = some (.slice qa Q.length qc) at c4
        have H7 : Hid (SM D s { p with js := Y.set n ((Y[n].toSt 1).toSa (earlF Y p.nodes n p.now)), qs := Q } gv (.slice (some ⟨g, 0, none⟩) p.js.length c) (.slice qa Q.length qc) ((x2.setCell ⟨g, n * 6 + 1, none⟩ (.int .i64 1)).setCell ⟨g, n * 6 + 1 + 3, none⟩ (.int .i64 (earlF Y p.nodes n p.now)))) := H6'
        have hsz := H6'.pl.lt
        clear H6'
        have hqr : ((x2.setCell ⟨g, n * 6 + 1, none⟩ (.int .i64 1)).setCell ⟨g, n * 6 + 1 + 3, none⟩ (.int .i64 (earlF Y p.nodes n p.now))).ownsRow 0 3 1 (.slice qa Q.length qc) Q.length (Q.map iV) := H7.out.qr
        have hw6 : ((x2.setCell ⟨g, n * 6 + 1, none⟩ (.int .i64 1)).setCell ⟨g, n * 6 + 1 + 3, none⟩ (.int .i64 (earlF Y p.nodes n p.now))).heap.size = x2.heap.size := by simp
        go_wp2_with (at_builtin; refine wpList_append_lies _ rfl _ _ 36 rfl 0 3 i0 (.int .i64 0) 1 8 Tryz.underlying36 hI0 hz0 hz1 hz2 rfl (by decide) _ Q.length _ rfl (hqr.alloc _) ⟨x2.heap.size, 0, none⟩ 1 1 [.int .i64 (n : Int)] rfl rfl ?c1 ?c2 (by decide) ?c3 ?c4 ?c5 _ rfl ?_)
        case c1 =>
          have q := whole_new ((x2.setCell ⟨g, n * 6 + 1, none⟩ (.int .i64 1)).setCell ⟨g, n * 6 + 1 + 3, none⟩ (.int .i64 (earlF Y p.nodes n p.now))) (.cells #[.int .i64 (n : Int)] 3 (0, 0))
          rw [hw6] at q
          exact World.news_of_block (cs := #[.int .i64 (n : Int)]) (t := 3) (fr := (0, 0)) q
        case c2 => first | rfl | (intro u hu; simp at hu; subst hu; rfl)
        case c3 => unfold maxLen; omega
        case c4 => omega
        case c5 => first | omega | (simp; omega) | simp
        intro g4 cap4 x4 hown4 hgrow4 hat4 hlt4
        have H8 := H7.out.below ((Below.refl _ _).alloc (Nat.le_refl _) (.cells #[.int .i64 (n : Int)] 3))
        have K8 := K6.out.trans (Keep.below ((Below.refl _ _).alloc (Nat.le_refl _) (.cells #[.int .i64 (n : Int)] 3)) H7.out.dom)
        have hD : ∀ b, (Value.slice (some ⟨g4, 0, none⟩) (Q.length + 1) cap4).ownBlock = some b → D b := by
          intro b hb
          simp [Value.ownBlock] at hb
          subst hb
          rcases hat4 with h9 | h9
          · exact H8.dq _ h9
          · exact H8.dom _ (by simp; omega)
        have H9 := H8.pushQ hgrow4 hown4 hD
        have hs4 : x4.heap[s]? = _ := (hgrow4.block s H8.pl.lt (fun e => H8.qne e.symm)).trans H8.pl
        have z9 := whole_frozen hs4 4
        have c9 := whole_cell hs4 4
        simp at c9
        have K9 : Hid (Keep D w (x4.setCell ⟨s, 4, none⟩ (.slice (some ⟨g4, 0, none⟩) (Q.length + 1) cap4))) := (K8.grown hgrow4 (fun k e => H8.dq k e) H8.dom).setCell H8.ds _
        have H10 : Hid (SM D s { p with js := Y.set n ((Y[n].toSt 1).toSa (earlF Y p.nodes n p.now)), qs := Q ++ [n] } gv (.slice (some ⟨g, 0, none⟩) p.js.length c) (.slice (some ⟨g4, 0, none⟩) (Q.length + 1) cap4) (x4.setCell ⟨s, 4, none⟩ (.slice (some ⟨g4, 0, none⟩) (Q.length + 1) cap4))) := H9
        clear H8 K8 hD H9 hs4 hgrow4 hown4 hat4 hqr hw6 H7 K6 c4 hsz
        go_wp2_with fail
        go_roundg (p.js.length - (n + 1) + 1)
        case measure => omega
        case rel => exact ⟨n + 1, _, _, rfl, by omega, rfl, by go_num, by rw [HSU.out]; exact H10, K9⟩
      | false =>
        rw [hh] at he
        subst he
        rw [hh, if_neg (by decide)] at HSU
        go_wp2_with fail
        go_roundg (p.js.length - (n + 1) + 1)
        case measure => omega
        case rel => exact ⟨n + 1, qx, _, rfl, by omega, rfl, by go_num, by rw [HSU.out]; exact H4, K4⟩
    · have hlt' : ¬ (n : Int) < (p.js.length : Int) := by omega
      have hnl : n = p.js.length := by omega
      subst hnl
      go_wp2_with fail
      go_end0
      exact ⟨rfl, ⟨qx, H1.out⟩, K1.out⟩
end Go.Proofs.YtanknpmojblmcaaGreatDoor
