/-
  The program's machine: lay, join, ask, plain.
-/
import Derived.Test.YtanknpmojblmcaaXVal
set_option linter.unusedSimpArgs false
set_option linter.unusedVariables false
namespace Go.Proofs.Ytanknpmojblmcaa
open Go.RowKit

attribute [local go_sem ↓] Go.wp_at_zero Go.wp_at_succ

def vI (n : Nat) : Value := .int .i64 (n : Int)
/-- The machine's block. -/
def Mc (b : Nat) (v : Value) (a : Nat) (br : Bool) (w : World) : Prop := w.heap[b]? = some (.cells #[v, .int .i64 (a : Int), .bool br] 76 (0, 0))
theorem Mc.c0 {b : Nat} {v : Value} {a : Nat} {br : Bool} {w : World} (h : Mc b v a br w) : w.cell? ⟨b, 0, none⟩ = some v := by rw [whole_cell h]; rfl
theorem Mc.c1 {b : Nat} {v : Value} {a : Nat} {br : Bool} {w : World} (h : Mc b v a br w) : w.cell? ⟨b, 1, none⟩ = some (.int .i64 (a : Int)) := by rw [whole_cell h]; rfl
theorem Mc.c2 {b : Nat} {v : Value} {a : Nat} {br : Bool} {w : World} (h : Mc b v a br w) : w.cell? ⟨b, 2, none⟩ = some (.bool br) := by rw [whole_cell h]; rfl
theorem Mc.z {b : Nat} {v : Value} {a : Nat} {br : Bool} {w : World} (h : Mc b v a br w) (k : Nat) : w.frozen? ⟨b, k, none⟩ = false := whole_frozen h k
theorem Mc.lt {b : Nat} {v : Value} {a : Nat} {br : Bool} {w : World} (h : Mc b v a br w) : b < w.heap.size := whole_lt h
theorem Mc.alloc {b : Nat} {v : Value} {a : Nat} {br : Bool} {w : World} (h : Mc b v a br w) (o : Obj) : Mc b v a br (w.alloc o) := whole_alloc h o
theorem Mc.set0 {b : Nat} {v : Value} {a : Nat} {br : Bool} {w : World} (h : Mc b v a br w) (u : Value) : Mc b u a br (w.setCell ⟨b, 0, none⟩ u) := whole_set h 0 _
theorem Mc.set1 {b : Nat} {v : Value} {a : Nat} {br : Bool} {w : World} (h : Mc b v a br w) (k : Nat) {u : Value} (hu : u = .int .i64 (k : Int)) : Mc b v k br (w.setCell ⟨b, 1, none⟩ u) := by subst hu; exact whole_set h 1 _
theorem Mc.set2 {b : Nat} {v : Value} {a : Nat} {br : Bool} {w : World} (h : Mc b v a br w) (k : Bool) : Mc b v a k (w.setCell ⟨b, 2, none⟩ (.bool k)) := whole_set h 2 _

/-- The machine with its stack. -/
def stkV (S : List Nat) : List Value := S.reverse.map vI
def MS (b : Nat) (m : List Nat × Nat × Bool) (w : World) : Prop := ∃ pa pc, Mc b (.slice pa m.1.length pc) m.2.1 m.2.2 w ∧ w.ownsRow (b + 1) 3 1 (.slice pa m.1.length pc) m.1.length (stkV m.1) ∧ m.1.length ≤ 24 ∧ ∀ x ∈ m.1, x ≤ 2

theorem owns_set {w : World} {b : Nat} {e : TypeId} {size : Nat} {v : Value} {n : Nat} {xs : List Value} (h : w.ownsRow (b + 1) e size v n xs) (i : Nat) (u : Value) : (w.setCell ⟨b, i, none⟩ u).ownsRow (b + 1) e size v n xs :=
  ownsRow_setCell_below h (by show b < b + 1; omega) u
theorem MS.fail {b : Nat} {m : List Nat × Nat × Bool} {w : World} (h : MS b m w) : MS b (m.1, m.2.1, true) (w.setCell ⟨b, 2, none⟩ (.bool true)) := by
  obtain ⟨pa, pc, h1, h2, h3⟩ := h
  exact ⟨pa, pc, h1.set2 true, owns_set h2 _ _, h3⟩
theorem MS.asked {b : Nat} {S : List Nat} {a k : Nat} {br : Bool} {w : World} (h : MS b (S, a, br) w) {u : Value} (hu : u = .int .i64 (k : Int)) : MS b (S, k, br) (w.setCell ⟨b, 1, none⟩ u) := by
  obtain ⟨pa, pc, h1, h2, h3⟩ := h
  exact ⟨pa, pc, h1.set1 k hu, owns_set h2 _ _, h3⟩
theorem MS.drewN {b : Nat} {m : List Nat × Nat × Bool} {w : World} (h : MS b m w) (n : Nat) : MS b m (w.drewN n) := h
theorem MS.lt {b : Nat} {m : List Nat × Nat × Bool} {w : World} (h : MS b m w) : b < w.heap.size := by
  obtain ⟨pa, pc, h1, h2, h3⟩ := h; exact h1.lt
theorem MS.of {b : Nat} {m m' : List Nat × Nat × Bool} {w : World} (h : MS b m w) (e : m = m') : MS b m' w := e ▸ h

theorem infoInt : (Try.prog.info? 3).map (fun i => (i.zero, i.size, i.bytes)) = some (some (.int .i64 0), 1, 8) := by kernel_rfl

set_option maxRecDepth 100000 in
set_option maxHeartbeats 2000000 in
theorem lay_any (b x : Nat) (m : List Nat × Nat × Bool) (w : World) (h : MS b m w) (hx : x ≤ 2) :
    Calls Try.prog 61 #[.pointer (some ⟨b, 0, none⟩), .int .i64 (x : Int)] w fun e w' => e = .returned (.tuple #[]) ∧ MS b (layM x m) w' ∧ Below b w w' := by
  obtain ⟨i0, hi, hz0, hz1, hz2⟩ := info_parts infoInt
  obtain ⟨S, a, br⟩ := m
  have H0 : Hid (MS b (S, a, br) w) := h
  obtain ⟨pa, pc, h1, hown, hl, hv⟩ := h
  have hbl := h1.lt
  have q0 := h1.c0; have q2 := h1.c2; have z0 := h1.z 0; have z2 := h1.z 2
  dsimp only at q0 q2 hown hl hv
  by_cases hf : 24 ≤ S.length
  · have hf' : (24 : Int) ≤ (S.length : Int) := by omega
    go_enter Try.func61, Try.ntmps61
    go_wp2_with fail
    (try simp only [Exit.inBlock, Exit.then]); refine bodyPost_ret (results_none rfl _ _ _) rfl ?_
    refine ⟨rfl, ?_, (Below.refl b w).setCell (Nat.le_refl _) _⟩
    have : layM x (S, a, br) = (S, a, true) := by unfold layM; rw [if_pos hf]
    rw [this]
    exact H0.out.fail
  · have hf' : decide ((24 : Int) ≤ (S.length : Int)) = false := by simp; omega
    have HL : Hid (layM x (S, a, br) = (x :: S, a, br)) := by show layM x (S, a, br) = _; unfold layM; rw [if_neg hf]
    clear H0 hf
    go_enter Try.func61, Try.ntmps61
    go_wp2_with (at_builtin; refine wpList_append_lies _ rfl _ _ 41 rfl (b + 1) 3 i0 (.int .i64 0) 1 8 Try.underlying41 hi hz0 hz1 hz2 rfl (by decide) _ S.length (stkV S) rfl (hown.alloc _) ⟨w.heap.size, 0, none⟩ 1 1 [.int .i64 (x : Int)] rfl rfl (World.news_of_block (cs := #[.int .i64 (x : Int)]) (t := 3) (fr := (0, 0)) (heap_alloc_new w _)) ?c2 (by decide) ?c3 ?c4 ?c5 _ rfl ?_)
    case c2 => first | rfl | (intro u hu; simp at hu; subst hu; rfl)
    case c3 => unfold maxLen; omega
    case c4 => omega
    case c5 => first | omega | (simp; omega)
    intro g cap w1 hown1 hgrow hat hlt
    have hne : ∀ k, k ≤ b → some k ≠ (Value.slice pa S.length pc).ownBlock := by
      intro k hk e
      have := (hown.lt k e.symm).1; omega
    have m1 : Mc b _ a br w1 := (hgrow.block b (by simp; omega) (hne b (Nat.le_refl _))).trans (h1.alloc (.cells #[.int .i64 (x : Int)] 3))
    have hB : Below b w w1 := ((Below.refl b w).alloc (by omega) (.cells #[.int .i64 (x : Int)] 3)).trans ⟨hgrow.os, hgrow.tape, hgrow.output, hgrow.size, fun k hk => hgrow.block k (by simp; omega) (hne k (by omega))⟩
    have y0 := m1.c0; have yz := m1.z 0
    clear hgrow hat hlt q0 q2 z0 z2 hown h1 hne
    go_wp2_with fail
    go_end0
    refine ⟨rfl, ?_, hB.setCell (Nat.le_refl _) _⟩
    rw [HL.out]
    refine ⟨some ⟨g, 0, none⟩, cap, m1.set0 _, ?_, by simp; simp at hf'; omega, by
      intro u hu
      rcases List.mem_cons.1 hu with rfl | hu
      · exact hx
      · exact hv u hu⟩
    have := owns_set hown1 0 (.slice (some ⟨g, 0, none⟩) (S.length + 1) cap)
    simpa [stkV, vI] using this

theorem vAnd_le (a b : Nat) : vAnd a b ≤ 2 := by unfold vAnd; split <;> (try split) <;> omega
theorem vOr_le (a b : Nat) : vOr a b ≤ 2 := by unfold vOr; split <;> (try split) <;> omega
theorem knw_le (b : Bool) : knw b ≤ 2 := by cases b <;> decide
theorem vP_le (op : Nat) (s : Int) : vP op s ≤ 2 := by
  unfold vP
  repeat' split
  all_goals first | exact knw_le _ | omega

theorem owns_take2 {w : World} {base : Nat} {e : TypeId} {pa : Option Addr} {n cap : Nat} {xs ys : List Value} (hx : xs.length = n) (hy : ys.length = 2)
    (h : w.ownsRow base e 1 (.slice pa (n + 2) cap) (n + 2) (xs ++ ys)) : w.ownsRow base e 1 (.slice pa n cap) n xs := by
  obtain ⟨_, h2⟩ := h
  rcases h2 with ⟨h0, _⟩ | ⟨g', cap', cur, hv, hg, hh, hn, hcap, hsz, htake⟩
  · cases h0
  · cases hv
    refine ⟨by omega, .inr ⟨g', cap, cur, rfl, hg, hh, by omega, hcap, hsz, ?_⟩⟩
    have h3 : (cur.toList.take ((n + 2) * 1)).take (n * 1) = (xs ++ ys).take (n * 1) := by rw [htake]
    rw [List.take_take, Nat.min_eq_left (by omega)] at h3
    rw [h3]
    simp [hx]

theorem row_cellI {w : World} {base : Nat} {e : TypeId} {g n cap : Nat} {xs : List Value} (h : w.ownsRow base e 1 (.slice (some ⟨g, 0, none⟩) n cap) n xs) (j : Nat) (hj : j < n) : w.cell? ⟨g, j, none⟩ = xs[j]? := by
  rw [h.cellAt j (by omega)]

set_option maxRecDepth 100000 in
set_option maxHeartbeats 2000000 in
theorem join_any (b op : Nat) (m : List Nat × Nat × Bool) (w : World) (h : MS b m w) (hop : op = 5 ∨ op = 6) :
    Calls Try.prog 62 #[.pointer (some ⟨b, 0, none⟩), .int .i64 (op : Int)] w fun e w' => e = .returned (.tuple #[]) ∧ MS b (joinM op m) w' ∧ Below b w w' := by
  obtain ⟨S, a, br⟩ := m
  have H0 : Hid (MS b (S, a, br) w) := h
  obtain ⟨pa, pc, h1, hown, hl, hv⟩ := h
  have hbl := h1.lt
  have q0 := h1.c0; have q2 := h1.c2; have z0 := h1.z 0; have z2 := h1.z 2
  dsimp only at q0 q2 hown hl hv
  by_cases hf : S.length < 2
  · have hf' : ((S.length : Int) - 2) < 0 := by omega
    have HL : Hid (joinM op (S, a, br) = (S, a, true)) := by
      show joinM op (S, a, br) = _
      unfold joinM
      match S, hf with
      | [], _ => rfl
      | [x], _ => rfl
    clear hf hown
    go_enter Try.func62, Try.ntmps62
    go_wp2_with fail
    (try simp only [Exit.inBlock, Exit.then]); refine bodyPost_ret (results_none rfl _ _ _) rfl ?_
    refine ⟨rfl, ?_, (Below.refl b w).setCell (Nat.le_refl _) _⟩
    rw [HL.out]
    exact H0.out.fail
  · obtain ⟨y, x, S', rfl⟩ : ∃ y x S', S = y :: x :: S' := by
      match S, hf with
      | [], hf => exact absurd (by simp) hf
      | [x], hf => exact absurd (by simp) hf
      | y :: x :: S', _ => exact ⟨y, x, S', rfl⟩
    have hx := hv x (by simp)
    have hy := hv y (by simp)
    have HL : Hid (joinM op (y :: x :: S', a, br) = layM (joinV op x y) (S', a, br)) := rfl
    have e0 : stkV (y :: x :: S') = stkV S' ++ [vI x, vI y] := by simp [stkV]
    have hlenS : (stkV S').length = S'.length := by simp [stkV]
    have eN : (y :: x :: S').length = S'.length + 2 := rfl
    rw [e0, eN] at hown
    rw [eN] at q0 h1 hl
    obtain ⟨g, rfl⟩ : ∃ g, pa = some ⟨g, 0, none⟩ := by
      rcases hown.2 with ⟨hq, _⟩ | ⟨g, cap, cur, hq, _⟩
      · cases hq
      · cases hq; exact ⟨g, rfl⟩
    have hcap : S'.length + 2 ≤ pc := by
      rcases hown.2 with ⟨hq, _⟩ | ⟨g, cap, cur, hq, _, _, hh, _⟩
      · cases hq
      · cases hq; exact hh
    have cx := row_cellI hown S'.length (by omega)
    have cy := row_cellI hown (S'.length + 1) (by omega)
    rw [List.getElem?_append_right (by omega), hlenS] at cx cy
    simp [vI] at cx cy
    have hown' := owns_take2 (n := S'.length) hlenS rfl hown
    have hgb : g ≠ b := by
      intro e
      have := (hown.lt g rfl).1; omega
    have hv' : ∀ u ∈ S', u ≤ 2 := fun u hu => hv u (by simp [hu])
    have hV : Hid (∀ u ∈ S', u ≤ 2) := hv'
    clear hv hv' hf H0 e0 hown eN
    generalize hN : S'.length = N at *
    have eN1 : ((N + 2 : Nat) : Int) - 2 = (N : Int) := by omega
    have eN2 : ((N : Nat) : Int) + 2 - 2 = (N : Int) := by omega
    have M1 : Hid (MS b (S', a, br) (w.setCell ⟨b, 0, none⟩ (.slice (some ⟨g, 0, none⟩) N pc))) := by
      refine ⟨some ⟨g, 0, none⟩, pc, ?_, ?_, ?_, hV.out⟩
      · dsimp only; rw [hN]; exact h1.set0 _
      · dsimp only; rw [hN]; exact owns_set hown' _ _
      · dsimp only; omega
    have B1 : Below b w (w.setCell ⟨b, 0, none⟩ (.slice (some ⟨g, 0, none⟩) N pc)) := (Below.refl b w).setCell (Nat.le_refl _) _
    rcases hop with rfl | rfl
    · go_enter Try.func62, Try.ntmps62
      go_wp2_with fail
      refine (vand_any x y hx hy _).mono ?_
      rintro e w1 ⟨rfl, hw1⟩
      subst hw1
      go_wp2_with fail
      refine (lay_any b (vAnd x y) (S', a, br) _ M1.out (vAnd_le x y)).mono ?_
      rintro e w1 ⟨rfl, hm, hB⟩
      go_wp2_with fail
      go_end0
      exact ⟨rfl, hm, B1.trans hB⟩
    · go_enter Try.func62, Try.ntmps62
      go_wp2_with fail
      refine (vor_any x y hx hy _).mono ?_
      rintro e w1 ⟨rfl, hw1⟩
      subst hw1
      go_wp2_with fail
      refine (lay_any b (vOr x y) (S', a, br) _ M1.out (vOr_le x y)).mono ?_
      rintro e w1 ⟨rfl, hm, hB⟩
      go_wp2_with fail
      go_end0
      exact ⟨rfl, hm, B1.trans hB⟩

end Go.Proofs.Ytanknpmojblmcaa
