/-
  The document's left, and its Exec.
-/
import Derived.Test.YtanknpmojblmcaaXRefB
set_option linter.unusedSimpArgs false
set_option linter.unusedVariables false
namespace Go.Proofs.Ytanknpmojblmcaa
open Go.RowKit

theorem fin_two (f : Nat → Nat → Nat) : ∀ (l : List (Nat × Nat)) (S : List Nat) (h : Nat), finR l S.length = some h → ∀ i (hi : i < l.length), (l[i].1 = 5 ∨ l[i].1 = 6) → 2 ≤ (stkR f (l.take i) S).length
  | [], S, h, e, i, hi, hb => by simp at hi
  | x :: R, S, h, e, i, hi, hb => by
    unfold finR at e
    split at e
    · cases e
    · rename_i hn
      have q := opS_len f x S hn
      cases i with
      | zero =>
        simp at hb
        have : stepH x.1 S.length = S.length - 1 := by unfold stepH; rw [if_pos hb]
        rw [this] at hn
        show 2 ≤ S.length
        omega
      | succ i =>
        have := fin_two f R (opS f x S) h (by rw [q]; exact e) i (by simpa using hi) (by simpa using hb)
        simpa [stkR] using this

theorem stk_snoc (f : Nat → Nat → Nat) (l : List (Nat × Nat)) (k : Nat) (hk : k < l.length) : stkR f (l.take (k + 1)) [] = opS f l[k] (stkR f (l.take k) []) := by
  rw [List.take_succ_eq_append_getElem hk, stkR_append]; rfl

set_option maxHeartbeats 4000000 in
theorem left_any (v u : Value) (l : List (Nat × Nat)) (ns : List Int) (N : Nat) (hS : areS ns = true) (hJ : jobsOK l ns.length = true) (h6 : ∀ x ∈ l, x.1 ≤ 6) (hl : l.length ≤ 8000)
    (h2 : ∀ i (hi : i < l.length), (l[i].1 = 5 ∨ l[i].1 = 6) → 2 ≤ (stkR (docV ns) (l.take i) []).length) :
    ∀ (k : Nat), k < l.length → ∀ (w : World), N ≤ w.heap.size → Insl N v l w → IntsB N u ns w →
    Calls Try.prog 22 #[v, .int .i64 (k : Int), u] w fun e w' => ∃ a f : Nat, e = .returned (.tuple #[.int .i64 (a : Int), .int .i64 (f : Int)]) ∧ f ≤ k ∧ stkR (docV ns) (l.take (k + 1)) [] = a :: stkR (docV ns) (l.take f) [] ∧ Below w.heap.size w w' := by
  intro k
  induction k using Nat.strongRecOn with
  | ind k ih =>
    intro hk w hN hv hu
    have HS : Hid _ := stk_snoc (docV ns) l k hk
    have hx6 := h6 l[k] (List.getElem_mem hk)
    have hx2 := h2 k hk
    have hJk : asksB l[k].1 = true → l[k].2 < ns.length := by
      intro ha
      have := List.all_eq_true.1 hJ l[k] (List.getElem_mem hk)
      rw [ha] at this; simpa using this
    have HV : Hid (Insl N v l w) := hv
    have HU : Hid (IntsB N u ns w) := hu
    rcases hv with ⟨_, rfl⟩ | ⟨g, cap, rfl, hc, hg, hcell⟩
    · simp at hk
    have ck := hcell k hk
    have HIH : Hid _ := ih
    clear hcell ih
    generalize l[k] = x at *
    obtain ⟨op, j⟩ := x
    dsimp only at ck hx6 hx2 hJk
    obtain ⟨ck0, ck1⟩ := ck
    have hkl : (k : Int) < (l.length : Int) := by omega
    by_cases h0 : op = 0
    · subst h0
      have HE : Hid (stkR (docV ns) (l.take (k + 1)) [] = 1 :: stkR (docV ns) (l.take k) []) := by
        show _ = _
        rw [HS.out]; rfl
      clear hx2 hJk hu
      go_enter Try.func22, Try.ntmps22
      go_wp2_with fail
      go_ret2
      exact ⟨1, k, rfl, Nat.le_refl _, HE.out, Below.refl _ _⟩
    · have h0' : ((op : Int) == 0) = false := by rw [beq_eq_false_iff_ne]; omega
      by_cases hb : op = 5 ∨ op = 6
      · -- two values are joined
        have hlen2 := hx2 hb
        have hkpos : 0 < k := by
          cases k with
          | zero => simp [stkR] at hlen2
          | succ k => omega
        have ek : (k : Int) - 1 = ((k - 1 : Nat) : Int) := by omega
        clear hx2 hJk hu
        have FIN : ∀ (a b : Nat) (R : List Nat), stkR (docV ns) (l.take k) [] = b :: a :: R → stkR (docV ns) (l.take (k + 1)) [] = joinV op a b :: R := by
          intro a b R e
          rw [HS.out, e]
          unfold opS
          rw [if_neg h0, if_pos hb]
        have HF : Hid _ := FIN
        clear FIN
        go_enter Try.func22, Try.ntmps22
        rcases hb with rfl | rfl
        all_goals
          go_wp2_with fail
          refine (HIH.out (k - 1) (by omega) (by omega) w hN HV.out HU.out).mono ?_
          rintro e w1 ⟨b, f1, rfl, hf1, hs1, hB1⟩
          rw [show k - 1 + 1 = k from by omega] at hs1
          have hf1p : 0 < f1 := by
            rw [hs1] at hlen2
            cases f1 with
            | zero => simp [stkR] at hlen2
            | succ f => omega
          have ef : (f1 : Int) - 1 = ((f1 - 1 : Nat) : Int) := by omega
          have HS1 : Hid _ := hs1
          clear hs1 hlen2
          go_wp2_with fail
          have HV1 := HV.out.kept (hB1.mono hN)
          have HU1 := HU.out.kept (hB1.mono hN)
          refine (HIH.out (f1 - 1) (by omega) (by omega) w1 (Nat.le_trans hN hB1.size) HV1 HU1).mono ?_
          rintro e w2 ⟨a, f2, rfl, hf2, hs2, hB2⟩
          rw [show f1 - 1 + 1 = f1 from by omega] at hs2
          have HS2 : Hid _ := hs2
          clear hs2 HV1 HU1
          replace hB2 := hB1.trans (hB2.mono hB1.size)
          go_wp2_with fail
          have HI : IntsB (w2.heap.size + 1) (.slice (some ⟨w2.heap.size, 0, none⟩) 2 2) (toI [a, b]) (w2.alloc (.cells #[.int .i64 (a : Int), .int .i64 (b : Int)] 3)) := by
            refine Or.inr ⟨w2.heap.size, 2, rfl, by simp [toI], by omega, ?_⟩
            intro i hi
            simp [toI] at hi
            have hw := whole_new w2 (.cells #[.int .i64 (a : Int), .int .i64 (b : Int)] 3 (0, 0))
            rw [whole_cell hw]
            have : i = 0 ∨ i = 1 := by omega
            rcases this with rfl | rfl <;> simp [toI]
          first
            | refine (refAnd_any _ _ [a, b] _ HI (by simp)).mono ?_
            | refine (refOr_any _ _ [a, b] _ HI (by simp)).mono ?_
          rintro e w3 ⟨rfl, hw3⟩
          subst hw3
          go_wp2_with fail
          go_ret2
          refine ⟨_, f2, rfl, by omega, ?_, hB2.alloc hB2.size _⟩
          rw [HF.out a b _ (by rw [HS1.out, HS2.out])]
          simp only [joinV, andL_two, orL_two]
          first | rfl | simp
      · have hb5 : ((op : Int) != 5) = true := by rw [bne_iff_ne]; omega
        have hb6 : ((op : Int) != 6) = true := by rw [bne_iff_ne]; omega
        have ha : asksB op = true := by simp [asksB]; omega
        have hj := hJk ha
        have HE : Hid (stkR (docV ns) (l.take (k + 1)) [] = vR op ns[j] :: stkR (docV ns) (l.take k) []) := by
          show _ = _
          rw [HS.out]
          unfold opS
          rw [if_neg h0, if_neg hb]
          simp [docV, List.getD_eq_getElem?_getD, List.getElem?_eq_getElem hj]
        have hs : 0 ≤ ns[j] ∧ ns[j] ≤ 6 := by
          simp only [areS, Bool.and_eq_true, decide_eq_true_eq, List.all_eq_true] at hS
          exact hS.2 ns[j] (List.getElem_mem hj)
        have hop1 : 1 ≤ op := by omega
        have hop4 : op ≤ 4 := by omega
        rcases hu with ⟨_, rfl⟩ | ⟨g', cap', rfl, hc', hg', hcell'⟩
        · simp at hj
        have cj := hcell' j hj
        have hjl : (j : Int) < (ns.length : Int) := by omega
        clear hcell' hx2 hJk ha hb h0
        generalize ns[j] = s at *
        go_enter Try.func22, Try.ntmps22
        go_wp2_with fail
        refine (Of_any op s hop1 hop4 hs.1 hs.2 _).mono ?_
        rintro e w1 ⟨rfl, hw1⟩
        subst hw1
        go_wp2_with fail
        go_ret2
        exact ⟨vR op s, k, rfl, Nat.le_refl _, HE.out, Below.refl _ _⟩

end Go.Proofs.Ytanknpmojblmcaa
