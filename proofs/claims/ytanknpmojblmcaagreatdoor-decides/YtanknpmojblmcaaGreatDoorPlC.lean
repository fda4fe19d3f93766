/-
  Package pool: the time at which all is over; the nodes that are free; the states.
-/
import Derived.Test.YtanknpmojblmcaaGreatDoorPlA
set_option linter.unusedSimpArgs false
set_option linter.unusedVariables false
namespace Go.Proofs.YtanknpmojblmcaaGreatDoor
open Go.RowKit

def allN (now : Int) (js : List PJ) : Nat → Int
  | 0 => now
  | n + 1 => if hasS (js.getD n pj0) = true ∧ allN now js n < overJ (js.getD n pj0) then overJ (js.getD n pj0) else allN now js n
def allF (now : Int) (js : List PJ) : Int := allN now js js.length
theorem getD_ok {js : List PJ} (h : ∀ j ∈ js, PjOK j) (k : Nat) : PjOK (js.getD k pj0) := by
  by_cases hk : k < js.length
  · have e : js.getD k pj0 = js[k] := by simp [hk]
    rw [e]
    exact h _ (List.getElem_mem hk)
  · have e : js.getD k pj0 = pj0 := by simp [hk]
    rw [e]; exact ⟨by decide, by decide, by decide, by decide, by decide⟩
theorem allN_le (now : Int) (js : List PJ) (h : ∀ j ∈ js, PjOK j) (n1 : 0 ≤ now) (n2 : now ≤ 5000) : ∀ n, now ≤ allN now js n ∧ allN now js n ≤ 10012 := by
  intro n
  induction n with
  | zero => unfold allN; omega
  | succ n ih =>
    have h1 := (getD_ok h n).hi
    have h2 := (getD_ok h n).tm
    unfold allN
    split
    · unfold overJ at *; omega
    · exact ih

set_option maxRecDepth 100000 in
set_option maxHeartbeats 1000000 in
theorem plAllOver (s : Nat) (gv : Value) (nodes : Nat) (now : Int) (jv qv : Value) (js : List PJ) (w : World) (hP : Pl s gv nodes now jv qv w) (hJ : Ps jv js w) (hl : js.length ≤ 1000) (hok : ∀ j ∈ js, PjOK j) (n1 : 0 ≤ now) (n2 : now ≤ 5000) :
    Calls Tryz.prog 117 #[.pointer (some ⟨s, 1, none⟩)] w fun e w' => e = .returned (.int .i64 (allF now js)) ∧ Below w.heap.size w w' := by
  obtain ⟨a, c, rfl⟩ := hJ.form
  have c2 := hP.c 2; have c3 := hP.c 3
  simp at c2 c3
  have HOK : Hid (∀ j ∈ js, PjOK j) := hok
  clear hok
  go_enter Tryz.func117, Tryz.ntmps117
  go_wp2_with fail
  go_loopg [3, 15] (js.length + 1) (fun r sv x wr => ∃ (n : Nat) (wz : World), wz = wr ∧ n ≤ js.length ∧ r = js.length - n + 1 ∧ x = .int .i64 (n : Int) ∧ sv = .int .i64 (allN now js n) ∧ Below w.heap.size w wz)
  case atStart => exact ⟨0, _, rfl, Nat.zero_le _, rfl, rfl, rfl, Below.refl _ _⟩
  case round =>
    obtain ⟨n, wz, rfl, hn, rfl, rfl, rfl, hB⟩ := hrel
    by_cases hlt : n < js.length
    · have hlt' : (n : Int) < (js.length : Int) := by omega
      rcases hJ with ⟨_, rfl⟩ | ⟨b, cap, hv, hcap, hb, hcell⟩
      · simp at hlt
      cases hv
      have hcl : ∀ j, j < 6 → wz.cell? ⟨b, n * 6 + j, none⟩ = (pjC js[n])[j]? := fun j hj => (hB.cell hb).trans (hcell n hlt j hj)
      have l0 := hcl 0 (by omega); have l1 := hcl 1 (by omega); have l2 := hcl 2 (by omega); have l3 := hcl 3 (by omega); have l4 := hcl 4 (by omega); have l5 := hcl 5 (by omega)
      simp [pjC] at l0 l1 l2 l3 l4 l5
      have hg : PjOK js[n] := HOK.out _ (List.getElem_mem hlt)
      have HGD : Hid (js.getD n pj0 = js[n]) := by show _ = _; simp [hlt]
      clear hcl hcell
      have HS : Hid (allN now js (n + 1) = if hasS js[n] = true ∧ allN now js n < overJ js[n] then overJ js[n] else allN now js n) := by
        show _ = _
        rw [← HGD.out]; rfl
      clear HGD
      generalize js[n] = g at *
      generalize allN now js n = sm at *
      have hB2 := hB.alloc hB.size (.cells #[.string (bs g.code), .int .i64 (g.st : Int), .int .i64 (g.nd : Int), .int .i64 (g.tm : Int), .int .i64 g.sa, .int .i64 g.en] 154)
      go_wp2_with fail
      have Y : (wz.alloc (.cells #[.string (bs g.code), .int .i64 (g.st : Int), .int .i64 (g.nd : Int), .int .i64 (g.tm : Int), .int .i64 g.sa, .int .i64 g.en] 154)).heap[wz.heap.size]? = _ := whole_new wz (.cells (pjC g) 154 (0, 0))
      generalize wz.alloc (.cells #[.string (bs g.code), .int .i64 (g.st : Int), .int .i64 (g.nd : Int), .int .i64 (g.tm : Int), .int .i64 g.sa, .int .i64 g.en] 154) = x2 at *
      generalize wz.heap.size = hb2 at *
      clear l0 l1 l2 l3 l4 l5
      refine (plHas g hg _).mono ?_
      rintro e x3 ⟨rfl, hX3⟩
      have Y3 := (hX3.block _ (whole_lt Y)).trans Y
      have hB3 := hB2.trans (hX3.mono hB2.size)
      have d0 := whole_cell Y3 0; have d1 := whole_cell Y3 1; have d2 := whole_cell Y3 2; have d3 := whole_cell Y3 3; have d4 := whole_cell Y3 4; have d5 := whole_cell Y3 5
      simp [pjC] at d0 d1 d2 d3 d4 d5
      clear hX3 Y
      cases hh : hasS g with
      | false =>
        go_wp2_with fail
        go_roundg (js.length - (n + 1) + 1)
        case measure => omega
        case rel => exact ⟨n + 1, _, rfl, by omega, rfl, by go_num, by rw [HS.out, if_neg (by rw [hh]; simp)], hB3⟩
      | true =>
        go_wp2_with fail
        refine (plOver g hg _).mono ?_
        rintro e x4 ⟨rfl, hX4⟩
        have Y4 := (hX4.block _ (whole_lt Y3)).trans Y3
        have hB4 := hB3.trans (hX4.mono hB3.size)
        have f0 := whole_cell Y4 0; have f1 := whole_cell Y4 1; have f2 := whole_cell Y4 2; have f3 := whole_cell Y4 3; have f4 := whole_cell Y4 4; have f5 := whole_cell Y4 5
        simp [pjC] at f0 f1 f2 f3 f4 f5
        clear d0 d1 d2 d3 d4 d5 hX4 Y3
        by_cases hs2 : sm < overJ g
        · go_wp2_with fail
          refine (plOver g hg _).mono ?_
          rintro e x5 ⟨rfl, hX5⟩
          have hB5 := hB4.trans (hX5.mono hB4.size)
          clear hX5 f0 f1 f2 f3 f4 f5
          go_wp2_with fail
          go_roundg (js.length - (n + 1) + 1)
          case measure => omega
          case rel => exact ⟨n + 1, _, rfl, by omega, rfl, by go_num, by rw [HS.out, if_pos ⟨hh, hs2⟩], hB5⟩
        · go_wp2_with fail
          go_roundg (js.length - (n + 1) + 1)
          case measure => omega
          case rel => exact ⟨n + 1, _, rfl, by omega, rfl, by go_num, by rw [HS.out, if_neg (by rintro ⟨_, q⟩; omega)], hB4⟩
    · have hlt' : ¬ (n : Int) < (js.length : Int) := by omega
      have hnl : n = js.length := by omega
      subst hnl
      go_wp2_with fail
      go_ret
      exact ⟨rfl, hB⟩
end Go.Proofs.YtanknpmojblmcaaGreatDoor
