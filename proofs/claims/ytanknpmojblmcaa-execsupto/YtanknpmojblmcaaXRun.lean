/-
  The program's machine: ask, plain, run; Run and Exec.
-/
import Derived.Test.YtanknpmojblmcaaXMach
import Derived.Deep.LoopGhost
set_option linter.unusedSimpArgs false
set_option linter.unusedVariables false
namespace Go.Proofs.Ytanknpmojblmcaa
open Go.RowKit

/-- A slice of numbers that can be read. -/
def Ints (u : Value) (ns : List Int) (w : World) : Prop :=
  (u = .slice none 0 0 ∧ ns = []) ∨ ∃ g cap, u = .slice (some ⟨g, 0, none⟩) ns.length cap ∧ ns.length ≤ cap ∧ g < w.heap.size ∧ ∀ k, (hk : k < ns.length) → w.cell? ⟨g, k, none⟩ = some (.int .i64 ns[k])
/-- and lies below N. -/
def IntsB (N : Nat) (u : Value) (ns : List Int) (w : World) : Prop :=
  (u = .slice none 0 0 ∧ ns = []) ∨ ∃ g cap, u = .slice (some ⟨g, 0, none⟩) ns.length cap ∧ ns.length ≤ cap ∧ g < N ∧ ∀ k, (hk : k < ns.length) → w.cell? ⟨g, k, none⟩ = some (.int .i64 ns[k])
theorem IntsB.kept {N : Nat} {u : Value} {ns : List Int} {w w' : World} (h : IntsB N u ns w) (b : Below N w w') : IntsB N u ns w' := by
  rcases h with h | ⟨g, cap, h1, h2, h3, h4⟩
  · exact Or.inl h
  · exact Or.inr ⟨g, cap, h1, h2, h3, fun k hk => (b.cell h3).trans (h4 k hk)⟩
theorem IntsB.mono {N M : Nat} {u : Value} {ns : List Int} {w : World} (h : IntsB N u ns w) (b : N ≤ M) : IntsB M u ns w := by
  rcases h with h | ⟨g, cap, h1, h2, h3, h4⟩
  · exact Or.inl h
  · exact Or.inr ⟨g, cap, h1, h2, by omega, h4⟩
theorem IntsB.form {N : Nat} {u : Value} {ns : List Int} {w : World} (h : IntsB N u ns w) : ∃ a c, u = .slice a ns.length c := by
  rcases h with ⟨rfl, rfl⟩ | ⟨g, cap, rfl, _⟩
  · exact ⟨_, _, rfl⟩
  · exact ⟨_, _, rfl⟩

set_option maxHeartbeats 1000000 in
theorem ask_any (b op j : Nat) (u : Value) (ns : List Int) (m : List Nat × Nat × Bool) (w : World) (h : MS b m w) (hu : IntsB b u ns w) (hop1 : 1 ≤ op) (hop2 : op ≤ 4) (hj : j < 256) :
    Calls Try.prog 51 #[.pointer (some ⟨b, 0, none⟩), .int .i64 (op : Int), .int .i64 (j : Int), u] w fun e w' => e = .returned (.tuple #[]) ∧ MS b (askM ns op j m) w' ∧ Below b w w' := by
  obtain ⟨S, a, br⟩ := m
  have hB0 := Below.refl b w
  have H0 : Hid (MS b (S, a, br) w) := h
  obtain ⟨pa, pc, h1, hown, hl, hv⟩ := h
  have q1 := h1.c1; have q2 := h1.c2; have z1 := h1.z 1; have z2 := h1.z 2
  dsimp only at q1 q2
  clear hown hl hv h1
  by_cases hf : 24 ≤ j
  · have hf' : (24 : Int) ≤ (j : Int) := by omega
    go_enter Try.func51, Try.ntmps51
    go_wp2_with fail
    (try simp only [Exit.inBlock, Exit.then]); refine bodyPost_ret (results_none rfl _ _ _) rfl ?_
    refine ⟨rfl, ?_, hB0.setCell (Nat.le_refl _) _⟩
    have : askM ns op j (S, a, br) = (S, a, true) := by unfold askM; rw [if_pos hf]
    rw [this]
    exact H0.out.fail
  · have hf' : decide ((24 : Int) ≤ (j : Int)) = false := by simp; omega
    have HL : Hid (askM ns op j (S, a, br) = layM (askV ns op j) (S, askA j a, br)) := by show askM ns op j (S, a, br) = _; unfold askM; rw [if_neg hf]
    -- behind the first two tests the world is w0, with the number set
    have HA : ∃ w0, MS b (S, askA j a, br) w0 ∧ Below b w w0 ∧ ((a ≤ j ∧ w0 = w.setCell ⟨b, 1, none⟩ (.int .i64 ((j : Int) + 1))) ∨ (j < a ∧ w0 = w)) := by
      by_cases ha : a ≤ j
      · refine ⟨_, ?_, hB0.setCell (p := ⟨b, 1, none⟩) (Nat.le_refl _) (.int .i64 ((j : Int) + 1)), Or.inl ⟨ha, rfl⟩⟩
        have : askA j a = j + 1 := by unfold askA; rw [if_pos ha]
        rw [this]
        exact H0.out.asked (by simp)
      · refine ⟨w, ?_, hB0, Or.inr ⟨by omega, rfl⟩⟩
        have : askA j a = a := by unfold askA; rw [if_neg ha]
        rw [this]
        exact H0.out
    obtain ⟨w0, hm0, hB, hw0⟩ := HA
    have hu0 := hu.kept hB
    clear H0 hf hu
    have HM : Hid (MS b (S, askA j a, br) w0) := hm0
    clear hm0
    by_cases hjn : j < ns.length
    · have HV : Hid (askV ns op j = vP op ns[j]) := by
        show askV ns op j = _
        unfold askV; rw [if_pos hjn]; simp [List.getD_eq_getElem?_getD, List.getElem?_eq_getElem hjn]
      rcases hu0 with ⟨rfl, rfl⟩ | ⟨g, cap, rfl, hc, hg, hcell⟩
      · simp at hjn
      have cj := hcell j hjn
      have hjn' : (j : Int) < (ns.length : Int) := by omega
      have hjn2 : decide ((ns.length : Int) ≤ (j : Int)) = false := by simp; omega
      clear hcell
      generalize ns[j] = s at *
      rcases hw0 with ⟨ha, rfl⟩ | ⟨ha, rfl⟩
      · have ha' : (a : Int) ≤ (j : Int) := by omega
        go_enter Try.func51, Try.ntmps51
        go_wp2_with fail
        refine (ofJob_any op s hop1 hop2 _).mono ?_
        rintro e w1 ⟨rfl, n1, hw1⟩
        subst hw1
        go_wp2_with fail
        refine (lay_any b (vP op s) (S, askA j a, br) _ (HM.out.drewN n1) (vP_le _ _)).mono ?_
        rintro e w1 ⟨rfl, hm, hB1⟩
        go_wp2_with fail
        go_end0
        refine ⟨rfl, ?_, (below_drewN hB n1).trans hB1⟩
        rw [HL.out, HV.out]; exact hm
      · have ha' : decide ((a : Int) ≤ (j : Int)) = false := by simp; omega
        go_enter Try.func51, Try.ntmps51
        go_wp2_with fail
        refine (ofJob_any op s hop1 hop2 _).mono ?_
        rintro e w1 ⟨rfl, n1, hw1⟩
        subst hw1
        go_wp2_with fail
        refine (lay_any b (vP op s) (S, askA j a, br) _ (HM.out.drewN n1) (vP_le _ _)).mono ?_
        rintro e w1 ⟨rfl, hm, hB1⟩
        go_wp2_with fail
        go_end0
        refine ⟨rfl, ?_, (below_drewN hB n1).trans hB1⟩
        rw [HL.out, HV.out]; exact hm
    · have HV : Hid (askV ns op j = 0) := by show askV ns op j = _; unfold askV; rw [if_neg hjn]
      obtain ⟨pa', pc', rfl⟩ := hu0.form
      have hjn' : (ns.length : Int) ≤ (j : Int) := by omega
      rcases hw0 with ⟨ha, rfl⟩ | ⟨ha, rfl⟩
      · have ha' : (a : Int) ≤ (j : Int) := by omega
        go_enter Try.func51, Try.ntmps51
        go_wp2_with fail
        refine (lay_any b 0 (S, askA j a, br) _ HM.out (by omega)).mono ?_
        rintro e w1 ⟨rfl, hm, hB1⟩
        go_wp2_with fail
        (try simp only [Exit.inBlock, Exit.then]); refine bodyPost_ret (results_none rfl _ _ _) rfl ?_
        refine ⟨rfl, ?_, hB.trans hB1⟩
        rw [HL.out, HV.out]; exact hm
      · have ha' : decide ((a : Int) ≤ (j : Int)) = false := by simp; omega
        go_enter Try.func51, Try.ntmps51
        go_wp2_with fail
        refine (lay_any b 0 (S, askA j a, br) _ HM.out (by omega)).mono ?_
        rintro e w1 ⟨rfl, hm, hB1⟩
        go_wp2_with fail
        (try simp only [Exit.inBlock, Exit.then]); refine bodyPost_ret (results_none rfl _ _ _) rfl ?_
        refine ⟨rfl, ?_, hB.trans hB1⟩
        rw [HL.out, HV.out]; exact hm

set_option maxHeartbeats 1000000 in
theorem plain_any (b op : Nat) (m : List Nat × Nat × Bool) (w : World) (h : MS b m w) :
    Calls Try.prog 50 #[.pointer (some ⟨b, 0, none⟩), .int .i64 (op : Int)] w fun e w' => e = .returned (.tuple #[]) ∧ MS b (plainM op m) w' ∧ Below b w w' := by
  obtain ⟨S, a, br⟩ := m
  have hB0 := Below.refl b w
  have H0 : Hid (MS b (S, a, br) w) := h
  obtain ⟨pa, pc, h1, hown, hl, hv⟩ := h
  have q2 := h1.c2; have z2 := h1.z 2
  dsimp only at q2
  clear hown hl hv h1
  by_cases h0 : op = 0
  · subst h0
    go_enter Try.func50, Try.ntmps50
    go_wp2_with fail
    refine (lay_any b 1 (S, a, br) _ H0.out (by omega)).mono ?_
    rintro e w1 ⟨rfl, hm, hB1⟩
    go_wp2_with fail
    go_end0
    exact ⟨rfl, hm, hB1⟩
  · have h0' : ((op : Int) == 0) = false := by rw [beq_eq_false_iff_ne]; omega
    by_cases h5 : op = 5
    · subst h5
      go_enter Try.func50, Try.ntmps50
      go_wp2_with fail
      refine (join_any b 5 (S, a, br) _ H0.out (Or.inl rfl)).mono ?_
      rintro e w1 ⟨rfl, hm, hB1⟩
      go_wp2_with fail
      go_end0
      exact ⟨rfl, hm, hB1⟩
    · have h5' : ((op : Int) == 5) = false := by rw [beq_eq_false_iff_ne]; omega
      by_cases h6 : op = 6
      · subst h6
        go_enter Try.func50, Try.ntmps50
        go_wp2_with fail
        refine (join_any b 6 (S, a, br) _ H0.out (Or.inr rfl)).mono ?_
        rintro e w1 ⟨rfl, hm, hB1⟩
        go_wp2_with fail
        go_end0
        exact ⟨rfl, hm, hB1⟩
      · have h6' : ((op : Int) == 6) = false := by rw [beq_eq_false_iff_ne]; omega
        have HL : Hid (plainM op (S, a, br) = (S, a, true)) := by
          show plainM op (S, a, br) = _
          unfold plainM; rw [if_neg h0, if_neg (by omega)]
        clear h0 h5 h6
        go_enter Try.func50, Try.ntmps50
        go_wp2_with fail
        go_end0
        refine ⟨rfl, ?_, hB0.setCell (Nat.le_refl _) _⟩
        rw [HL.out]
        exact H0.out.fail

end Go.Proofs.Ytanknpmojblmcaa
