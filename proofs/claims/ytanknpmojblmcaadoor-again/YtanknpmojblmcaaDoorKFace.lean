/-
  Does a head that was read say what was written; what a want is read as.
-/
import Derived.Test.YtanknpmojblmcaaDoorKWrit
set_option linter.unusedSimpArgs false
set_option linter.unusedVariables false
namespace Go.Proofs.YtanknpmojblmcaaDoor
open Go.RowKit

set_option maxHeartbeats 1000000 in
theorem sameFace_eq (j : JV) (a b : List UInt8) (w : World) :
    Calls Tryd.prog 6 #[.agg (jvC { j with after := a }), .agg (jvC { j with after := b })] w fun e w' => e = .returned (.bool true) ∧ Below w.heap.size w w' := by
  unfold jvC
  go_enter Tryd.func6, Tryd.ntmps6
  go_wp2_with fail
  go_ret
  exact ⟨rfl, ((Below.refl _ _).alloc (Nat.le_refl _) _).alloc (by simp) _⟩

/-- A slice of jobs that can be read. -/
def Js (v : Value) (hs : List JV) (w : World) : Prop :=
  (v = .slice none 0 0 ∧ hs = []) ∨ ∃ g cap, v = .slice (some ⟨g, 0, none⟩) hs.length cap ∧ hs.length ≤ cap ∧ g < w.heap.size ∧ ∀ k, (hk : k < hs.length) → ∀ j, j < 7 → w.cell? ⟨g, k * 7 + j, none⟩ = (jvC hs[k])[j]?
theorem flatJ_len (hs : List JV) : (flatJ hs).length = hs.length * 7 := by
  induction hs with
  | nil => rfl
  | cons h r ih =>
    have : flatJ (h :: r) = (jvC h).toList ++ flatJ r := rfl
    rw [this, List.length_append, ih]
    simp [jvC]; omega
theorem flatJ_get (hs : List JV) : ∀ (k : Nat) (hk : k < hs.length) (j : Nat), j < 7 → (flatJ hs)[k * 7 + j]? = (jvC hs[k])[j]? := by
  induction hs with
  | nil => intro k hk; simp at hk
  | cons h r ih =>
    intro k hk j hj
    have e : flatJ (h :: r) = (jvC h).toList ++ flatJ r := rfl
    have hl : (jvC h).toList.length = 7 := by simp [jvC]
    rw [e]
    cases k with
    | zero => rw [List.getElem?_append_left (by omega)]; simp
    | succ k =>
      rw [List.getElem?_append_right (by omega), hl, show (k + 1) * 7 + j - 7 = k * 7 + j from by omega, ih k (by simpa using hk) j hj]
      simp
theorem Js.of {w : World} {base : Nat} {v : Value} {hs : List JV} (h : w.ownsRow base 32 7 v hs.length (flatJ hs)) : Js v hs w := by
  rcases h.2 with ⟨hv, hn⟩ | ⟨g, cap, cur, hv, h1, h2, h3, h4, h5, h6⟩
  · exact Or.inl ⟨hv, List.eq_nil_of_length_eq_zero hn⟩
  · right
    subst hv
    refine ⟨g, cap, rfl, h3, whole_lt h2, ?_⟩
    intro k hk j hj
    rw [h.cellAt (k * 7 + j) (by omega)]
    exact flatJ_get hs k hk j hj

set_option maxHeartbeats 1000000 in
theorem after_eq (j : JV) (a p : List UInt8) (w : World) (h1 : j.nodes ≤ 12) (h2 : j.time ≤ 12) (h3 : j.lo ≤ 12) (h4 : j.hi ≤ 12) (hn : j.name.length ≤ 10) (ha : a.length ≤ 2000)
    (hR : readJ (wrL j a) = [{ j with after := p }]) (hE : (readH (wrL j a)).2 = (0, 0)) :
    Calls Tryd.prog 12 #[.agg (jvC j), .string (bs a)] w fun e w' => e = .returned (.tuple #[.string (bs p), .bool true]) ∧ Below w.heap.size w w' := by
  have hl : (wrL j a).length ≤ 3000 := by
    have l2 := dig2_len j.nodes
    have l3 := dig2_len j.time
    have l4 := dig2_len j.lo
    have l5 := dig2_len j.hi
    unfold wrL wrA wr0
    split <;> split <;> simp <;> omega
  have hsz : (bs (wrL j a)).size ≤ maxLen := by rw [bs_size]; unfold maxLen; omega
  show Calls Tryd.prog 12 #[.agg #[.string (bs j.name), .int .i64 (j.nodes : Int), .int .i64 (j.time : Int), .bool j.arr, .int .i64 (j.lo : Int), .int .i64 (j.hi : Int), .string (bs j.after)], .string (bs a)] w _
  go_enter Tryd.func12, Tryd.ntmps12
  go_wp2_with fail
  refine (written_any j a _ h1 h2 h3 h4 hn ha).mono ?_
  rintro e w1 ⟨rfl, hB1⟩
  go_wp2_with fail
  refine (Read_any (bs (wrL j a)) _ hsz).mono ?_
  rintro e w2 ⟨v, rfl, hown, hB2⟩
  rw [bs_list] at hown
  rw [bs_list, hE]
  have HS := Js.of hown
  rw [hR] at HS
  rcases HS with ⟨_, q⟩ | ⟨g, cap, rfl, hc, hg, hcell⟩
  · cases q
  · have hcl := hcell 0 (by simp)
    have l0 := hcl 0 (by omega); have l1 := hcl 1 (by omega); have l2 := hcl 2 (by omega); have l3 := hcl 3 (by omega); have l4 := hcl 4 (by omega); have l5 := hcl 5 (by omega); have l6 := hcl 6 (by omega)
    simp [jvC] at l0 l1 l2 l3 l4 l5 l6
    clear hcl hcell hown
    simp only [List.length_cons, List.length_nil]
    have q1 := hB1.size
    have q2 := hB2.size
    have J : w2.heap[w.heap.size]? = some (.cells #[.string (bs j.name), .int .i64 (j.nodes : Int), .int .i64 (j.time : Int), .bool j.arr, .int .i64 (j.lo : Int), .int .i64 (j.hi : Int), .string (bs j.after)] 32 (0, 0)) := by
      simp at q1
      rw [hB2.block _ (by omega), hB1.block _ (by simp)]; exact whole_new w _
    have c0 := whole_cell J 0; have c1 := whole_cell J 1; have c2 := whole_cell J 2; have c3 := whole_cell J 3; have c4 := whole_cell J 4; have c5 := whole_cell J 5; have c6 := whole_cell J 6
    simp at c0 c1 c2 c3 c4 c5 c6
    clear J
    have hB : Below w.heap.size w w2 := (((Below.refl w.heap.size w).alloc (Nat.le_refl _) _).trans (hB1.mono (by simp))).trans (hB2.mono (by simp at q1; omega))
    clear hB1 hB2
    go_wp2_with fail
    go_region_with (go_at_call 6; refine (sameFace_eq j p j.after _).mono ?_; rintro e w3 ⟨rfl, hB3⟩)
    all_goals
      have m6 : w3.cell? ⟨g, 6, none⟩ = some (.string (bs p)) := (hB3.cell (p := ⟨g, 6, none⟩) hg).trans l6
      have hB4 : Below w.heap.size w w3 := hB.drew.trans (hB3.mono (by simp at q1; simp; omega))
      clear hB hB3 c0 c1 c2 c3 c4 c5 c6 l0 l1 l2 l3 l4 l5 l6
      go_wp2_with fail
      go_ret2
      exact ⟨rfl, hB4⟩

theorem br2_bs (p : List UInt8) : (⟨#[40, 40]⟩ ++ bs p ++ ⟨#[41, 41]⟩ : ByteArray) = bs ([40, 40] ++ p ++ [41, 41]) := by rw [← bs_append, ← bs_append]; rfl
theorem br1_bs (p : List UInt8) : (⟨#[40]⟩ ++ bs p ++ ⟨#[41, 124]⟩ ++ bs p : ByteArray) = bs ([40] ++ p ++ [41, 124] ++ p) := by rw [← bs_append, ← bs_append, ← bs_append]; rfl
theorem bar_bs (p : List UInt8) : (bs p ++ ⟨#[124]⟩ ++ bs p : ByteArray) = bs (p ++ [124] ++ p) := by rw [← bs_append, ← bs_append]; rfl

set_option maxHeartbeats 2000000 in
theorem again_eq (j : JV) (want : List UInt8) (w : World) (h1 : j.nodes ≤ 12) (h2 : j.time ≤ 12) (h3 : j.lo ≤ 12) (h4 : j.hi ≤ 12) (hn : j.name.length ≤ 10) (ha : j.after.length ≤ 900) (hw : want.length ≤ 900)
    (hO : (want = [] ∧ j.after = []) ∨ (want ≠ [] ∧ j.after ≠ [] ∧ AgainOK j want)) :
    Calls Tryd.prog 7 #[.agg (jvC j), .string (bs want)] w fun e w' => e = .returned (.bool true) ∧ Below w.heap.size w w' := by
  show Calls Tryd.prog 7 #[.agg #[.string (bs j.name), .int .i64 (j.nodes : Int), .int .i64 (j.time : Int), .bool j.arr, .int .i64 (j.lo : Int), .int .i64 (j.hi : Int), .string (bs j.after)], .string (bs want)] w _
  have s1 := bs_size j.after
  have s2 := bs_size want
  rcases hO with ⟨hw0, ha0⟩ | ⟨hw0, ha0, O⟩
  · have e1 : (bs want).toList.isEmpty = true := by rw [bs_toList, hw0]; rfl
    have e2 : ((bs want).toList == (bs j.after).toList) = true := by rw [bs_toList, bs_toList, hw0, ha0]; rfl
    clear hw0 ha0
    go_enter Tryd.func7, Tryd.ntmps7
    go_wp2_with fail
    go_ret
    exact ⟨rfl, (Below.refl _ w).alloc (Nat.le_refl _) _⟩
  · have e1 : (bs want).toList.isEmpty = false := by
      rw [bs_toList]
      cases want with
      | nil => exact absurd rfl hw0
      | cons _ _ => rfl
    have e2 : (bs j.after).toList.isEmpty = false := by
      rw [bs_toList]
      cases h : j.after with
      | nil => exact absurd h ha0
      | cons _ _ => rfl
    clear hw0 ha0
    go_enter Tryd.func7, Tryd.ntmps7
    go_wp2_with fail
    refine (after_eq j j.after j.after _ h1 h2 h3 h4 hn (by omega) O.a1 O.a2).mono ?_
    rintro e w1 ⟨rfl, hB1⟩
    have J1 : w1.heap[w.heap.size]? = some (.cells #[.string (bs j.name), .int .i64 (j.nodes : Int), .int .i64 (j.time : Int), .bool j.arr, .int .i64 (j.lo : Int), .int .i64 (j.hi : Int), .string (bs j.after)] 32 (0, 0)) := by
      rw [hB1.block _ (by simp)]; exact whole_new w _
    have hlt1 := whole_lt J1
    have hW1 : Below w.heap.size w w1 := ((Below.refl w.heap.size w).alloc (Nat.le_refl _) _).trans (hB1.mono (by simp))
    clear hB1
    have c0 := whole_cell J1 0; have c1 := whole_cell J1 1; have c2 := whole_cell J1 2; have c3 := whole_cell J1 3; have c4 := whole_cell J1 4; have c5 := whole_cell J1 5; have c6 := whole_cell J1 6
    simp at c0 c1 c2 c3 c4 c5 c6
    go_wp2_with fail
    rw [br2_bs]
    refine (after_eq j ([40, 40] ++ j.after ++ [41, 41]) j.after _ h1 h2 h3 h4 hn (by simp; omega) O.b1 O.b2).mono ?_
    rintro e w2 ⟨rfl, hB2⟩
    have J2 : w2.heap[w.heap.size]? = some (.cells #[.string (bs j.name), .int .i64 (j.nodes : Int), .int .i64 (j.time : Int), .bool j.arr, .int .i64 (j.lo : Int), .int .i64 (j.hi : Int), .string (bs j.after)] 32 (0, 0)) := (hB2.block _ hlt1).trans J1
    have hW2 : Below w.heap.size w w2 := hW1.trans (hB2.mono (by omega))
    have hlt2 := whole_lt J2
    clear hB2 hW1 J1 c0 c1 c2 c3 c4 c5 c6
    have c0 := whole_cell J2 0; have c1 := whole_cell J2 1; have c2 := whole_cell J2 2; have c3 := whole_cell J2 3; have c4 := whole_cell J2 4; have c5 := whole_cell J2 5; have c6 := whole_cell J2 6
    simp at c0 c1 c2 c3 c4 c5 c6
    go_wp2_with fail
    rw [br1_bs]
    refine (after_eq j ([40] ++ j.after ++ [41, 124] ++ j.after) (j.after ++ [124] ++ j.after) _ h1 h2 h3 h4 hn (by simp; omega) O.c1 O.c2).mono ?_
    rintro e w3 ⟨rfl, hB3⟩
    have hW3 : Below w.heap.size w w3 := hW2.trans (hB3.mono (by omega))
    clear hB3 hW2 J2 c0 c1 c2 c3 c4 c5 c6
    have g1 : ((bs j.after).toList == (bs j.after).toList) = true := by simp
    have g2 : ((bs (j.after ++ [124] ++ j.after)).toList == (bs j.after ++ ⟨#[124]⟩ ++ bs j.after : ByteArray).toList) = true := by rw [bar_bs]; simp
    have g4 : (bs (j.after ++ 124 :: j.after)).toList = (bs j.after ++ ⟨#[124]⟩ ++ bs j.after : ByteArray).toList := by rw [bar_bs]; simp
    have g3 : (j.after.length : Int) ≤ (want.length : Int) := by have := O.len; omega
    clear O
    go_wp2_with fail
    go_ret
    exact ⟨rfl, hW3⟩

end Go.Proofs.YtanknpmojblmcaaDoor
