/-
  Package link: for each head of a batch one that it waits for and that is stuck.
-/
import Derived.Test.YtanknpmojblmcabLkJ
import Derived.Test.YtanknpmojblmcabPlF
import Derived.OwnWalk
set_option linter.unusedSimpArgs false
set_option linter.unusedVariables false
namespace Go.Proofs.Ytanknpmojblmcab
open Go.RowKit

/-- A list of lists of numbers, that may be read alone. -/
def Ws (v : Value) (ws : List (List Nat)) (w : World) : Prop :=
  (v = .slice none 0 0 ∧ ws = []) ∨ ∃ g cap, ∃ qs : Nat → Value, v = .slice (some ⟨g, 0, none⟩) ws.length cap ∧ ws.length ≤ cap ∧ g < w.heap.size ∧ ∀ k, (hk : k < ws.length) → w.cell? ⟨g, k, none⟩ = some (qs k) ∧ Ns (qs k) ws[k] w
theorem Ws.form {v : Value} {js : List (List Nat)} {w : World} (h : Ws v js w) : ∃ a c, v = .slice a js.length c := by
  rcases h with ⟨rfl, rfl⟩ | ⟨g, cap, qs, rfl, _⟩
  · exact ⟨_, _, rfl⟩
  · exact ⟨_, _, rfl⟩
def zV (z : Int) : Value := .int .i64 z
def bV (b : Bool) : Value := .bool b
theorem Zs.of {w : World} {base : Nat} {v : Value} {js : List Int} {n : Nat} (hn0 : n = js.length) (h : w.ownsRow base 3 1 v n (js.map zV)) : Zs v js w := by
  subst hn0
  rcases h.2 with ⟨hv, hn⟩ | ⟨g, cap, cur, hv, h1, h2, h3, h4, h5, h6⟩
  · exact Or.inl ⟨hv, List.eq_nil_of_length_eq_zero hn⟩
  · right
    subst hv
    refine ⟨g, cap, rfl, h3, whole_lt h2, ?_⟩
    intro k hk
    rw [h.cellAt k (by omega)]
    simp [hk, zV]
theorem Bs.of {w : World} {base : Nat} {v : Value} {js : List Bool} {n : Nat} (hn0 : n = js.length) (h : w.ownsRow base 4 1 v n (js.map bV)) : Bs v js w := by
  subst hn0
  rcases h.2 with ⟨hv, hn⟩ | ⟨g, cap, cur, hv, h1, h2, h3, h4, h5, h6⟩
  · exact Or.inl ⟨hv, List.eq_nil_of_length_eq_zero hn⟩
  · right
    subst hv
    refine ⟨g, cap, rfl, h3, whole_lt h2, ?_⟩
    intro k hk
    rw [h.cellAt k (by omega)]
    simp [hk, bV]

def wayStep (ws : List (List Nat)) (i : Nat) (st : List Bool × List Int) : List Bool × List Int := (st.1.set i (decide (notFr st.1 (ws.getD i []) < 0)), st.2.set i (notFr st.1 (ws.getD i [])))
def wayRow (ws : List (List Nat)) (st : List Bool × List Int) : Nat → List Bool × List Int
  | 0 => st
  | n + 1 => wayStep ws n (wayRow ws st n)
def wayN (ws : List (List Nat)) : Nat → List Bool × List Int
  | 0 => (List.replicate ws.length false, List.replicate ws.length 0)
  | r + 1 => wayRow ws (wayN ws r) ws.length
def waysF (ws : List (List Nat)) : List Int := (wayN ws ws.length).2
theorem wayRow_len (ws : List (List Nat)) (st : List Bool × List Int) : ∀ n, (wayRow ws st n).1.length = st.1.length ∧ (wayRow ws st n).2.length = st.2.length := by
  intro n
  induction n with
  | zero => exact ⟨rfl, rfl⟩
  | succ n ih => unfold wayRow wayStep; simp [ih]
theorem wayN_len (ws : List (List Nat)) : ∀ n, (wayN ws n).1.length = ws.length ∧ (wayN ws n).2.length = ws.length := by
  intro n
  induction n with
  | zero => unfold wayN; simp
  | succ n ih => unfold wayN; rw [(wayRow_len ws _ _).1, (wayRow_len ws _ _).2]; exact ih

theorem infoBoolL : (Try.prog.info? 4).map (fun i => (i.zero, i.size, i.bytes)) = some (some (.bool false), 1, 1) := by kernel_rfl

set_option maxRecDepth 100000 in
set_option maxHeartbeats 2000000 in
theorem lkWays (v : Value) (ws : List (List Nat)) (w : World) (hW : Ws v ws w) (hl : ws.length ≤ 100) (hj : ∀ l ∈ ws, l.length ≤ 1000 ∧ ∀ j ∈ l, j < ws.length) :
    Calls Try.prog 52 #[v] w fun e w' => ∃ x, e = .returned x ∧ w'.ownsRow w.heap.size 3 1 x ws.length ((waysF ws).map zV) ∧ Below w.heap.size w w' := by
  obtain ⟨i0, hI0, hz0, hz1, hz2⟩ := info_parts infoIntL
  obtain ⟨i1, hI1, hy0, hy1, hy2⟩ := info_parts infoBoolL
  obtain ⟨a, c, rfl⟩ := hW.form
  have HW : Hid (Ws (.slice a ws.length c) ws w) := hW
  have HJ : Hid (∀ l ∈ ws, l.length ≤ 1000 ∧ ∀ j ∈ l, j < ws.length) := hj
  clear hW hj
  go_enter Try.func52, Try.ntmps52
  go_wp2_with (refine wpList_make_full _ rfl _ _ 107 rfl w.heap.size 4 i1 (.bool false) 1 Try.underlying107 hI1 hy0 hy1 _ _ _ _ ws.length rfl rfl rfl rfl ?b2 ?b3 ?b4 ?_)
  case b2 => rw [hy2]; omega
  case b3 => unfold maxLen; omega
  case b4 => exact Nat.le_refl _
  intro x1 hown1 hg1
  have hB1 : Below w.heap.size w x1 := (Below.refl _ w).grown hg1 (Nat.le_refl _) (by simp)
  have hsz1 := hB1.size
  go_wp2_with (refine wpList_make_full _ rfl _ _ 28 rfl w.heap.size 3 i0 (.int .i64 0) 1 Try.underlying28 hI0 hz0 hz1 _ _ _ _ ws.length rfl rfl rfl rfl ?b2 ?b3 ?b4 ?_)
  case b2 => rw [hz2]; omega
  case b3 => unfold maxLen; omega
  case b4 => omega
  intro x2 hown2 hg2
  have hB2 : Below w.heap.size w x2 := hB1.grown hg2 hsz1 (by simp)
  have hown1' := owns_below hown1 (show Below x1.heap.size x1 x2 from (Below.refl _ x1).grown hg2 (Nat.le_refl _) (by simp))
  have HF0 : Hid (x2.ownsRow w.heap.size 4 1 (.slice (some ⟨w.heap.size, 0, none⟩) ws.length ws.length) ws.length ((wayN ws 0).1.map bV)) := by
    show World.ownsRow _ _ _ _ _ _ _
    have e : (wayN ws 0).1.map bV = (madeCells #[Value.bool false] ws.length).toList := by
      rw [toList_madeCells_one]
      unfold wayN; simp [bV]
    rw [e]; exact hown1'
  have HG0 : Hid (x2.ownsRow w.heap.size 3 1 (.slice (some ⟨x1.heap.size, 0, none⟩) ws.length ws.length) ws.length ((wayN ws 0).2.map zV)) := by
    show World.ownsRow _ _ _ _ _ _ _
    have e : (wayN ws 0).2.map zV = (madeCells #[Value.int .i64 0] ws.length).toList := by
      rw [toList_madeCells_one]
      unfold wayN; simp [zV]
    rw [e]; exact hown2
  have HB2 : Hid (Below w.heap.size w x2) := hB2
  generalize x1.heap.size = gb at *
  clear hown1 hg1 hB1 hsz1 hown2 hg2 hB2 hown1'
  have HLN : Hid (∀ n, (wayN ws n).1.length = ws.length ∧ (wayN ws n).2.length = ws.length) := wayN_len ws
  go_wp2_with fail
  go_loopg [15] (ws.length + 1) (fun r x wr => ∃ (n : Nat) (wz : World), wz = wr ∧ n ≤ ws.length ∧ r = ws.length - n + 1 ∧ x = .int .i64 (n : Int) ∧ Hid (wz.ownsRow w.heap.size 4 1 (.slice (some ⟨w.heap.size, 0, none⟩) ws.length ws.length) ws.length ((wayN ws n).1.map bV)) ∧ Hid (wz.ownsRow w.heap.size 3 1 (.slice (some ⟨gb, 0, none⟩) ws.length ws.length) ws.length ((wayN ws n).2.map zV)) ∧ Hid (Below w.heap.size w wz))
  case atStart => exact ⟨0, _, rfl, Nat.zero_le _, rfl, rfl, HF0, HG0, HB2⟩
  case round =>
    obtain ⟨n, wz, rfl, hn, rfl, rfl, HF, HG, HB⟩ := hrel
    by_cases hlt : n < ws.length
    · have hlt' : (n : Int) < (ws.length : Int) := by omega
      obtain ⟨hl1, hl2⟩ := HLN.out n
      have HNX : Hid (wayN ws (n + 1) = wayRow ws (wayN ws n) ws.length) := rfl
      have HNC : Hid (∀ S : List Bool × List Int, S.1.length = ws.length → S.2.length = ws.length → ∀ k, (wayRow ws S k).1.length = ws.length ∧ (wayRow ws S k).2.length = ws.length) := fun S q1 q2 k => by rw [(wayRow_len ws S k).1, (wayRow_len ws S k).2]; exact ⟨q1, q2⟩
      generalize wayN ws n = S at *
      go_wp2_with fail
      go_loopg [19] (ws.length + 1) (fun r x wr => ∃ (k : Nat) (wy : World), wy = wr ∧ k ≤ ws.length ∧ r = ws.length - k + 1 ∧ x = .int .i64 (k : Int) ∧ Hid (wy.ownsRow w.heap.size 4 1 (.slice (some ⟨w.heap.size, 0, none⟩) ws.length ws.length) ws.length ((wayRow ws S k).1.map bV)) ∧ Hid (wy.ownsRow w.heap.size 3 1 (.slice (some ⟨gb, 0, none⟩) ws.length ws.length) ws.length ((wayRow ws S k).2.map zV)) ∧ Hid (Below w.heap.size w wy))
      case atStart => exact ⟨0, _, rfl, Nat.zero_le _, rfl, rfl, HF, HG, HB⟩
      case round =>
        obtain ⟨k, wy, rfl, hk, rfl, rfl, HF1, HG1, HB1⟩ := hrel
        by_cases hkl : k < ws.length
        · have hkl' : (k : Int) < (ws.length : Int) := by omega
          rcases HW.out with ⟨_, he⟩ | ⟨b, cap, qs, hv, hcap, hb, hcell⟩
          · rw [he] at hkl; simp at hkl
          cases hv
          have l0 := (HB1.out.cell (p := ⟨b, k, none⟩) hb).trans (hcell k hkl).1
          have HNs : Hid (Ns (qs k) ws[k] wy) := by
            show Ns _ _ _
            rcases (hcell k hkl).2 with q | ⟨g', cap', q1, q2, q3, q4⟩
            · exact Or.inl q
            · exact Or.inr ⟨g', cap', q1, q2, Nat.lt_of_lt_of_le q3 HB1.out.size, fun i hi => (HB1.out.cell (p := ⟨g', i, none⟩) q3).trans (q4 i hi)⟩
          obtain ⟨qa, qc, hq⟩ := HNs.out.form
          obtain ⟨hj1, hj2⟩ := HJ.out _ (List.getElem_mem hkl)
          obtain ⟨hc1, hc2⟩ := HNC.out S hl1 hl2 k
          have HSU : Hid (wayRow ws S (k + 1) = ((wayRow ws S k).1.set k (decide (notFr (wayRow ws S k).1 ws[k] < 0)), (wayRow ws S k).2.set k (notFr (wayRow ws S k).1 ws[k]))) := by
            show _ = _
            have e : ws.getD k [] = ws[k] := by simp [hkl]
            rw [← e]; rfl
          clear hcell
          generalize qs k = q at *
          generalize ws[k] = l at *
          subst hq
          generalize wayRow ws S k = T at *
          obtain ⟨F, G⟩ := T
          dsimp only at *
          have hGk : gb < wy.heap.size := (HG1.out.lt gb rfl).2
          have hFk : w.heap.size < wy.heap.size := (HF1.out.lt w.heap.size rfl).2
          have hFG : gb ≠ w.heap.size := by
            intro e
            have := rows_ne HF1.out HG1.out (by decide) gb rfl
            exact this (by rw [e]; rfl)
          go_wp2_with fail
          refine (lkNotFree _ _ l F _ HNs.out (Bs.of (by omega) HF1.out) (by omega) (by omega) (fun j hj => by rw [hc1]; exact hj2 j hj)).mono ?_
          rintro e y1 ⟨rfl, hY1⟩
          have hF2 := owns_below HF1.out hY1
          have hG2 := owns_below HG1.out hY1
          have HB2 : Hid (Below w.heap.size w y1) := HB1.out.trans (hY1.mono HB1.out.size)
          clear hY1 l0
          generalize notFr F l = z at *
          have hF3 := ownsRow_setCell_other hF2 (a := ⟨gb, k, none⟩) (rows_ne hF2 hG2 (by decide) gb rfl) (.int .i64 z)
          have hG3 := (hG2.stored k (.int .i64 z)).1
          have hG4 := ownsRow_setCell_other hG3 (a := ⟨w.heap.size, k, none⟩) (rows_ne hG3 hF3 (by decide) w.heap.size rfl) (.bool (decide (z < 0)))
          have hF4 := (hF3.stored k (.bool (decide (z < 0)))).1
          have HF4 : Hid (((y1.setCell ⟨gb, k, none⟩ (.int .i64 z)).setCell ⟨w.heap.size, k, none⟩ (.bool (decide (z < 0)))).ownsRow w.heap.size 4 1 (.slice (some ⟨w.heap.size, 0, none⟩) ws.length ws.length) ws.length ((F.set k (decide (z < 0))).map bV)) := by
            show World.ownsRow _ _ _ _ _ _ _
            rw [List.map_set]; exact hF4
          have HG4 : Hid (((y1.setCell ⟨gb, k, none⟩ (.int .i64 z)).setCell ⟨w.heap.size, k, none⟩ (.bool (decide (z < 0)))).ownsRow w.heap.size 3 1 (.slice (some ⟨gb, 0, none⟩) ws.length ws.length) ws.length ((G.set k z).map zV)) := by
            show World.ownsRow _ _ _ _ _ _ _
            rw [List.map_set]; exact hG4
          have hgw : w.heap.size ≤ gb := (HG1.out.lt gb rfl).1
          have HB4 : Hid (Below w.heap.size w ((y1.setCell ⟨gb, k, none⟩ (.int .i64 z)).setCell ⟨w.heap.size, k, none⟩ (.bool (decide (z < 0))))) := (HB2.out.setCell (p := ⟨gb, k, none⟩) hgw _).setCell (p := ⟨w.heap.size, k, none⟩) (Nat.le_refl _) _
          have zG := hG2.frozenAt k
          have zF := hF2.frozenAt k
          have cG : y1.cell? ⟨gb, k, none⟩ = some (.int .i64 (G.getD k 0)) := by
            rw [hG2.cellAt k (by omega)]
            simp [zV, show k < G.length by omega]
          have cF : y1.cell? ⟨w.heap.size, k, none⟩ = some (.bool (F.getD k false)) := by
            rw [hF2.cellAt k (by omega)]
            simp [bV, show k < F.length by omega]
          clear hF2 hG2 hF3 hG3 hG4 hF4
          go_wp2_with fail
          go_roundg (ws.length - (k + 1) + 1)
          case measure => omega
          case rel => exact ⟨k + 1, _, rfl, by omega, rfl, by go_num, by rw [HSU.out]; exact HF4, by rw [HSU.out]; exact HG4, HB4⟩
        · have hkl' : ¬ (k : Int) < (ws.length : Int) := by omega
          have hkk : k = ws.length := by omega
          subst hkk
          go_wp2_with fail
          go_roundg (ws.length - (n + 1) + 1)
          case measure => omega
          case rel => exact ⟨n + 1, _, rfl, by omega, rfl, by go_num, by rw [HNX.out]; exact HF1, by rw [HNX.out]; exact HG1, HB1⟩
    · have hlt' : ¬ (n : Int) < (ws.length : Int) := by omega
      have hnn : n = ws.length := by omega
      subst hnn
      go_wp2_with fail
      go_ret
      exact ⟨_, rfl, HG.out, HB.out⟩
end Go.Proofs.Ytanknpmojblmcab
