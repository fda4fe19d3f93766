/-
  Package link: ringOf.
-/
import Derived.Test.YtanknpmojblmcabLkL
set_option linter.unusedSimpArgs false
set_option linter.unusedVariables false
namespace Go.Proofs.Ytanknpmojblmcab
open Go.RowKit

theorem cntB_zero (n : Nat) : cntB (List.replicate n false) = 0 := by
  induction n with
  | zero => rfl
  | succ n ih => rw [List.replicate_succ]; simp [cntB, ih]

set_option maxRecDepth 100000 in
set_option maxHeartbeats 2000000 in
theorem lkRingOf (v : Value) (ws : List (List Nat)) (w : World) (hW : Ws v ws w) (hl : ws.length ≤ 100) (hj : ∀ l ∈ ws, l.length ≤ 1000 ∧ ∀ j ∈ l, j < ws.length) :
    Calls Try.prog 36 #[v] w fun e w' => ∃ x, e = .returned x ∧ w'.ownsRow w.heap.size 3 1 x (ringF ws).length ((ringF ws).map iV) ∧ Below w.heap.size w w' := by
  obtain ⟨i0, hI0, hz0, hz1, hz2⟩ := info_parts infoIntL
  obtain ⟨i1, hI1, hy0, hy1, hy2⟩ := info_parts infoBoolL
  have HJ : Hid (∀ l ∈ ws, ∀ j ∈ l, j < ws.length) := fun l hl' => (hj l hl').2
  have HWL := (wayN_len ws ws.length).2
  change (waysF ws).length = ws.length at HWL
  go_enter Try.func36, Try.ntmps36
  go_wp2_with fail
  refine (lkWays v ws w hW hl hj).mono ?_
  rintro e x1 ⟨nv, rfl, hown1, hB1⟩
  have HZ1 : Hid (Zs nv (waysF ws) x1) := Zs.of HWL.symm hown1
  obtain ⟨na, nc, rfl⟩ := row_formL hown1
  have HB1 : Hid (Below w.heap.size w x1) := hB1
  have HO1 : Hid (x1.ownsRow w.heap.size 3 1 (.slice na ws.length nc) ws.length ((waysF ws).map zV)) := hown1
  clear hown1 hB1 hW hj
  go_wp2_with fail
  refine (lkStuck _ (waysF ws) x1 HZ1.out (by omega)).mono ?_
  rintro e x2 ⟨he, hX2⟩
  have HO2 : Hid (x2.ownsRow w.heap.size 3 1 (.slice na ws.length nc) ws.length ((waysF ws).map zV)) := owns_below HO1.out hX2
  have HB2 : Hid (Below w.heap.size w x2) := HB1.out.trans (hX2.mono HB1.out.size)
  clear hX2
  rcases stuckF_spec (waysF ws) 0 with hs | ⟨a0, ha1, ha2, ha3⟩
  · have HE : Hid (ringF ws = []) := by show _ = _; unfold ringF; rw [if_pos hs]
    subst he
    generalize stuckF 0 (waysF ws) = z at *
    go_wp2_with fail
    go_ret
    exact ⟨_, rfl, by rw [HE.out]; exact World.ownsRow_nil _ _ _ _, HB2.out⟩
  · rw [ha2] at he
    simp only [Nat.zero_add] at he ha2
    have HE : Hid (ringF ws = ringL (waysF ws) (ws.length + 1) (goN (waysF ws) a0 ws.length) []) := by
      show _ = _
      unfold ringF
      rw [ha2, if_neg (by omega)]
      simp
    have HGO : Hid (∀ n, goN (waysF ws) a0 n < ws.length ∧ 0 ≤ (waysF ws).getD (goN (waysF ws) a0 n) 0) := goN_ok ws HJ.out a0 (by omega) ha3
    have HWO : Hid (∀ i, i < ws.length → 0 ≤ (waysF ws).getD i 0 → (waysF ws).getD i 0 = (((waysF ws).getD i 0).toNat : Int) ∧ ((waysF ws).getD i 0).toNat < ws.length ∧ 0 ≤ (waysF ws).getD ((waysF ws).getD i 0).toNat 0) := fun i q1 q2 => way_on ws HJ.out i q1 q2
    have HGS : Hid (∀ n, goN (waysF ws) a0 (n + 1) = ((waysF ws).getD (goN (waysF ws) a0 n) 0).toNat) := fun n => rfl
    have HG0 : Hid (goN (waysF ws) a0 0 = a0) := rfl
    have ha0 : 0 ≤ (a0 : Int) := by omega
    subst he
    generalize hnx : waysF ws = nx at *
    have hn0 : 0 < ws.length := by omega
    obtain ⟨g, cp, hv⟩ : ∃ g cp, Value.slice na ws.length nc = .slice (some ⟨g, 0, none⟩) ws.length cp := by
      rcases HO2.out.2 with ⟨_, q⟩ | ⟨g, cap, cur, hv, _⟩
      · omega
      · exact ⟨g, cap, hv⟩
    cases hv
    go_wp2_with fail
    have HC : Hid (∀ (y : World), y.ownsRow w.heap.size 3 1 (.slice (some ⟨g, 0, none⟩) ws.length nc) ws.length (nx.map zV) → ∀ k, k < ws.length → y.cell? ⟨g, k, none⟩ = some (.int .i64 (nx.getD k 0))) := by
      intro y hy k hk
      rw [hy.cellAt k (by omega)]
      simp [zV, show k < nx.length by omega]
    go_loopg [4, 15] (ws.length + 1) (fun r av x wr => ∃ (n : Nat), wr = x2 ∧ n ≤ ws.length ∧ r = ws.length - n + 1 ∧ x = .int .i64 (n : Int) ∧ av = .int .i64 (goN nx a0 n : Int))
    case atStart => exact ⟨0, rfl, Nat.zero_le _, rfl, rfl, by rw [HG0.out]⟩
    case round =>
      obtain ⟨n, rfl, hn, rfl, rfl, rfl⟩ := hrel
      obtain ⟨hg1, hg2⟩ := HGO.out n
      by_cases hlt : n < ws.length
      · have hlt' : (n : Int) < (ws.length : Int) := by omega
        have l0 := HC.out _ HO2.out (goN nx a0 n) hg1
        have HS : Hid (goN nx a0 (n + 1) = (nx.getD (goN nx a0 n) 0).toNat) := HGS.out n
        obtain ⟨hw1, _, _⟩ := HWO.out _ hg1 hg2
        rw [hw1] at l0
        generalize goN nx a0 n = b at *
        obtain ⟨k, hk⟩ : ∃ k, k = (nx.getD b 0).toNat := ⟨_, rfl⟩
        rw [← hk] at l0 HS
        clear hw1 hk hg2
        go_wp2_with fail
        go_roundg (ws.length - (n + 1) + 1)
        case measure => omega
        case rel => exact ⟨n + 1, rfl, by omega, rfl, by go_num, by rw [HS.out]⟩
      · have hlt' : ¬ (n : Int) < (ws.length : Int) := by omega
        have hnn : n = ws.length := by omega
        subst hnn
        have hsz2 := HB2.out.size
        go_wp2_with (refine wpList_make_full _ rfl _ _ 107 rfl w.heap.size 4 i1 (.bool false) 1 Try.underlying107 hI1 hy0 hy1 _ _ _ _ ws.length rfl rfl rfl rfl ?b2 ?b3 ?b4 ?_)
        case b2 => first | omega | (rw [hy2]; omega)
        case b3 => unfold maxLen; omega
        try (case b4 => omega)
        intro x3 hown3 hg3
        have hX3 : Below wr.heap.size wr x3 := (Below.refl _ wr).grown hg3 (Nat.le_refl _) (by simp)
        have HB3 : Hid (Below w.heap.size w x3) := HB2.out.trans (hX3.mono hsz2)
        have HO3 : Hid (x3.ownsRow w.heap.size 3 1 (.slice (some ⟨g, 0, none⟩) ws.length nc) ws.length (nx.map zV)) := owns_below HO2.out hX3
        have HF3 : Hid (x3.ownsRow w.heap.size 4 1 (.slice (some ⟨wr.heap.size, 0, none⟩) ws.length ws.length) ws.length ((List.replicate ws.length false).map bV)) := by
          show World.ownsRow _ _ _ _ _ _ _
          have e : (List.replicate ws.length false).map bV = (madeCells #[Value.bool false] ws.length).toList := by
            rw [toList_madeCells_one]
            simp [bV]
          rw [e]; exact hown3
        have hsw : w.heap.size ≤ wr.heap.size := hsz2
        generalize wr.heap.size = sb at *
        clear hown3 hg3 hX3
        have HGL : Hid (goN nx a0 ws.length < ws.length ∧ 0 ≤ nx.getD (goN nx a0 ws.length) 0) := ⟨hg1, hg2⟩
        obtain ⟨F, hF⟩ : ∃ F, F = ringF ws := ⟨_, rfl⟩
        rw [HE.out] at hF
        have HFE : Hid (ringF ws = F) := by show _ = _; rw [hF]; exact HE.out
        have HF0 : Hid (ringL nx (ws.length + 1) (goN nx a0 ws.length) [] = F) := hF.symm
        clear hF HE
        generalize goN nx a0 ws.length = b0 at *
        go_wp2_with fail
        go_loopg [4, 5] (ws.length + 1) (fun r av rv wr => ∃ (l : List Nat) (fs : List Bool) (b : Nat) (wz : World), wz = wr ∧ av = .int .i64 (b : Int) ∧ r = ws.length - cntB fs + 1 ∧ fs.length = ws.length ∧ cntB fs = l.length ∧ Hid (∀ k, fs.getD k false = true ↔ k ∈ l) ∧ b < ws.length ∧ Hid (0 ≤ nx.getD b 0) ∧ Hid (ringL nx (ws.length + 1 - l.length) b l = F) ∧ Hid (wz.ownsRow w.heap.size 3 1 rv l.length (l.map iV)) ∧ Hid (wz.ownsRow w.heap.size 4 1 (.slice (some ⟨sb, 0, none⟩) ws.length ws.length) ws.length (fs.map bV)) ∧ Hid (wz.ownsRow w.heap.size 3 1 (.slice (some ⟨g, 0, none⟩) ws.length nc) ws.length (nx.map zV)) ∧ Hid (∀ q, rv.ownBlock = some q → q ≠ g) ∧ Hid (Below w.heap.size w wz))
        case atStart => exact ⟨[], List.replicate ws.length false, b0, _, rfl, rfl, by rw [cntB_zero]; rfl, by simp, by rw [cntB_zero]; rfl, (fun k => by by_cases h : k < ws.length <;> simp [h]), HGL.out.1, HGL.out.2, HF0, World.ownsRow_nil _ _ _ _, HF3, HO3, (fun q hq => by simp [Value.ownBlock] at hq), HB3⟩
        case round =>
          obtain ⟨l, fs, b, wz, rfl, rfl, rfl, hfl, hcl, HM, hb, HNB, HRF, HR, HF4, HO4, HNE, HB4⟩ := hrel
          obtain ⟨ra, rc, rfl⟩ := row_formL HR.out
          have hcn := (cntB_len fs).1
          have cF : wz.cell? ⟨sb, b, none⟩ = some (.bool (fs.getD b false)) := by
            rw [HF4.out.cellAt b (by omega)]
            simp [bV, show b < fs.length by omega]
          have zF := HF4.out.frozenAt b
          have cN := HC.out _ HO4.out b hb
          obtain ⟨hw1, hw2, hw3⟩ := HWO.out b hb HNB.out
          rw [hw1] at cN
          have hfu : ws.length + 1 - l.length = (ws.length - l.length) + 1 := by omega
          cases hfb : fs.getD b false with
          | true =>
            rw [hfb] at cF
            have HL : Hid (F = l) := by
              show _ = _
              have q := HRF.out
              rw [hfu] at q
              unfold ringL at q
              rw [if_pos ((HM.out b).mp hfb)] at q
              exact q.symm
            go_wp2_with fail
            go_ret
            exact ⟨_, rfl, by rw [HFE.out, HL.out]; exact HR.out, HB4.out⟩
          | false =>
            rw [hfb] at cF
            have hnl : ¬ b ∈ l := fun q => by rw [(HM.out b).mpr q] at hfb; exact absurd hfb (by decide)
            have HRF2 : Hid (ringL nx (ws.length - l.length) (nx.getD b 0).toNat (l ++ [b]) = F) := by
              show _ = _
              have q := HRF.out
              rw [hfu] at q
              unfold ringL at q
              rw [if_neg hnl] at q
              exact q
            have hcs := cntB_set fs b (by omega) hfb
            have hcn2 := (cntB_len (fs.set b true)).1
            simp only [List.length_set] at hcn2
            have HM2 : Hid (∀ k, (fs.set b true).getD k false = true ↔ k ∈ l ++ [b]) := by
              intro k
              rw [getB_set _ _ _ _ (by omega)]
              split
              · rename_i e; subst e; simp
              · rename_i e
                rw [HM.out k]; simp [e]
            have hgs : g ≠ sb := by
              intro e
              exact rows_ne HO4.out HF4.out (by decide) sb rfl (by rw [← e]; rfl)
            have hF5 := (HF4.out.stored b (.bool true)).1
            have hO5 := ownsRow_setCell_other HO4.out (a := ⟨sb, b, none⟩) (rows_ne HO4.out HF4.out (by decide) sb rfl) (.bool true)
            have hR5 := ownsRow_setCell_other HR.out (a := ⟨sb, b, none⟩) (rows_ne HR.out HF4.out (by decide) sb rfl) (.bool true)
            have hsbw : w.heap.size ≤ sb := (HF4.out.lt sb rfl).1
            have hB5 : Below w.heap.size w (wz.setCell ⟨sb, b, none⟩ (.bool true)) := HB4.out.setCell (p := ⟨sb, b, none⟩) hsbw _
            have hsz5 := hB5.size
            have cN5 := HC.out _ hO5 b hb
            rw [hw1] at cN5
            obtain ⟨k, hk⟩ : ∃ k, k = (nx.getD b 0).toNat := ⟨_, rfl⟩
            rw [← hk] at cN5 hw2 hw3 HRF2
            clear hw1 cN hk
            have hsz6 : (wz.setCell ⟨sb, b, none⟩ (.bool true)).heap.size = wz.heap.size := by simp
            go_wp2_with (at_builtin; refine wpList_append_lies _ rfl _ _ 28 rfl w.heap.size 3 i0 (.int .i64 0) 1 8 Try.underlying28 hI0 hz0 hz1 hz2 rfl (by decide) _ l.length _ rfl (hR5.alloc _) ⟨wz.heap.size, 0, none⟩ 1 1 [.int .i64 (b : Int)] rfl rfl ?c1 ?c2 (by decide) ?c3 ?c4 ?c5 _ rfl ?_)
            case c1 =>
              have q := whole_new (wz.setCell ⟨sb, b, none⟩ (.bool true)) (.cells #[.int .i64 (b : Int)] 3 (0, 0))
              rw [hsz6] at q
              exact World.news_of_block (cs := #[.int .i64 (b : Int)]) (t := 3) (fr := (0, 0)) q
            case c2 => first | rfl | (intro u hu; simp at hu; subst hu; rfl)
            case c3 => unfold maxLen; omega
            case c4 => omega
            case c5 => first | omega | (simp; omega)
            intro g4 cap4 x4 hown4 hgrow4 hat4 hlt4
            have hB6 : Below w.heap.size w x4 := (hB5.alloc hsz5 _).grown hgrow4 (by simp at hsz5 ⊢; omega) (fun q hq => (hR5.lt q hq).1)
            have hgz : g < wz.heap.size := (HO4.out.lt g rfl).2
            have hsz : sb < wz.heap.size := (HF4.out.lt sb rfl).2
            have HO6 : Hid (x4.ownsRow w.heap.size 3 1 (.slice (some ⟨g, 0, none⟩) ws.length nc) ws.length (nx.map zV)) := owns_same (hO5.alloc (.cells #[.int .i64 (b : Int)] 3)) (fun q hq => by
              simp [Value.ownBlock] at hq
              subst hq
              exact hgrow4.block g (by simp; omega) (fun e => HNE.out g e.symm rfl))
            have HF6 : Hid (x4.ownsRow w.heap.size 4 1 (.slice (some ⟨sb, 0, none⟩) ws.length ws.length) ws.length ((fs.set b true).map bV)) := by
              show World.ownsRow _ _ _ _ _ _ _
              rw [List.map_set]
              exact owns_same (hF5.alloc (.cells #[.int .i64 (b : Int)] 3)) (fun q hq => by
                simp [Value.ownBlock] at hq
                subst hq
                exact hgrow4.block sb (by simp; omega) (fun e => rows_ne hR5 hF5 (by decide) sb rfl e.symm))
            have HNE6 : Hid (∀ q, (Value.slice (some ⟨g4, 0, none⟩) (l.length + 1) cap4).ownBlock = some q → q ≠ g) := by
              intro q hq
              simp [Value.ownBlock] at hq
              subst hq
              rcases hat4 with h9 | h9
              · exact HNE.out _ h9
              · omega
            have HR6 : Hid (x4.ownsRow w.heap.size 3 1 (.slice (some ⟨g4, 0, none⟩) (l.length + 1) cap4) (l ++ [b]).length ((l ++ [b]).map iV)) := by
              show World.ownsRow _ _ _ _ _ _ _
              simpa [iV] using hown4
            have HB6 : Hid (Below w.heap.size w x4) := hB6
            have cN6 := HC.out _ HO6.out b hb
            have cN5' : x4.cell? ⟨g, b, none⟩ = some (.int .i64 (k : Int)) := by
              rw [cN6]
              have := HC.out _ hO5 b hb
              rw [this] at cN5
              exact cN5
            clear hgrow4 hown4 hat4 hB6 hF5 hO5 hR5 hB5 cN5 cN6 cF zF
            go_wp2_with fail
            go_roundg (ws.length - cntB (fs.set b true) + 1)
            case measure => omega
            case rel => exact ⟨l ++ [b], fs.set b true, k, _, rfl, rfl, rfl, by simpa using hfl, by rw [hcs, List.length_append]; simp; omega, HM2, hw2, hw3, (by show _ = _; rw [List.length_append]; simpa [show ws.length + 1 - (l.length + 1) = ws.length - l.length from by omega] using HRF2.out), HR6, HF6, HO6, HNE6, HB6⟩
end Go.Proofs.Ytanknpmojblmcab
