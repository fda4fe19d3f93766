/-
  Package pool: how many nodes are wanted at a time.
-/
import Derived.Test.YtanknpmojblmcaaGreatDoorPlA
set_option linter.unusedSimpArgs false
set_option linter.unusedVariables false
namespace Go.Proofs.YtanknpmojblmcaaGreatDoor
open Go.RowKit

/-- Job k wants nodes at m. -/
def wantsAt (j : PJ) (m : Int) : Bool := hasS j && (decide (j.sa ≤ m) && decide (m < overJ j))
def wantN (js : List PJ) (id : Nat) (m : Int) : Nat → Nat
  | 0 => (js.getD id pj0).nd
  | n + 1 => wantN js id m n + (if n ≠ id ∧ wantsAt (js.getD n pj0) m = true then (js.getD n pj0).nd else 0)
def loadF (js : List PJ) (id : Nat) (m : Int) : Nat := wantN js id m js.length
theorem wantN_le (js : List PJ) (id : Nat) (m : Int) (h : ∀ j ∈ js, PjOK j) : ∀ n, n ≤ js.length → wantN js id m n ≤ 8 * (n + 1) := by
  have hg : ∀ k, (js.getD k pj0).nd ≤ 8 := by
    intro k
    by_cases hk : k < js.length
    · have e : js.getD k pj0 = js[k] := by simp [hk]
      rw [e]
      exact (h _ (List.getElem_mem hk)).nd
    · have e : js.getD k pj0 = pj0 := by simp [hk]
      rw [e]; decide
  intro n
  induction n with
  | zero => intro _; have := hg id; unfold wantN; omega
  | succ n ih =>
    intro hn
    have h1 := ih (by omega)
    have h2 := hg n
    unfold wantN
    split <;> omega

set_option maxRecDepth 100000 in
set_option maxHeartbeats 1000000 in
theorem plWanted (s : Nat) (gv : Value) (nodes : Nat) (now : Int) (jv qv : Value) (js : List PJ) (id : Nat) (m : Int) (w : World) (hP : Pl s gv nodes now jv qv w) (hJ : Ps jv js w) (hl : js.length ≤ 1000) (hid : id < js.length) (hok : ∀ j ∈ js, PjOK j) (hm1 : 0 ≤ m) (hm2 : m ≤ 100000) :
    Calls Tryz.prog 135 #[.pointer (some ⟨s, 1, none⟩), .int .i64 (id : Int), .int .i64 m] w fun e w' => e = .returned (.int .i64 (loadF js id m : Int)) ∧ Below w.heap.size w w' := by
  obtain ⟨a, c, rfl⟩ := hJ.form
  have c3 := hP.c 3
  simp at c3
  have hidI : (id : Int) < (js.length : Int) := by omega
  rcases hJ with ⟨_, rfl⟩ | ⟨b, cap, hv, hcap, hb, hcell⟩
  · simp at hid
  cases hv
  have n2 := hcell id hid 2 (by omega)
  simp [pjC] at n2
  have HC : Hid _ := hcell
  have HOK : Hid (∀ j ∈ js, PjOK j) := hok
  clear hcell hok
  go_enter Tryz.func135, Tryz.ntmps135
  go_wp2_with fail
  have HW : Hid (∀ n, n ≤ js.length → wantN js id m n ≤ 8 * (n + 1)) := wantN_le js id m HOK.out
  have HI : Hid (js.getD id pj0 = js[id]) := by show _ = _; simp [hid]
  go_loopg [7, 24] (js.length + 1) (fun r sv x wr => ∃ (n : Nat) (wz : World), wz = wr ∧ n ≤ js.length ∧ r = js.length - n + 1 ∧ x = .int .i64 (n : Int) ∧ sv = .int .i64 (wantN js id m n : Int) ∧ Below w.heap.size w wz)
  case atStart => exact ⟨0, _, rfl, Nat.zero_le _, rfl, rfl, by unfold wantN; rw [HI.out], Below.refl _ _⟩
  case round =>
    obtain ⟨n, wz, rfl, hn, rfl, rfl, rfl, hB⟩ := hrel
    by_cases hlt : n < js.length
    · have hlt' : (n : Int) < (js.length : Int) := by omega
      have hcl : ∀ j, j < 6 → wz.cell? ⟨b, n * 6 + j, none⟩ = (pjC js[n])[j]? := fun j hj => (hB.cell hb).trans (HC.out n hlt j hj)
      have l0 := hcl 0 (by omega); have l1 := hcl 1 (by omega); have l2 := hcl 2 (by omega); have l3 := hcl 3 (by omega); have l4 := hcl 4 (by omega); have l5 := hcl 5 (by omega)
      simp [pjC] at l0 l1 l2 l3 l4 l5
      have hg : PjOK js[n] := HOK.out _ (List.getElem_mem hlt)
      have HS : Hid (wantN js id m (n + 1) = wantN js id m n + (if n ≠ id ∧ wantsAt js[n] m = true then js[n].nd else 0)) := by
        show _ = _
        have e : js.getD n pj0 = js[n] := by simp [hlt]
        rw [← e]; rfl
      have hwb := HW.out n hn
      clear hcl n2
      generalize js[n] = g at *
      generalize wantN js id m n = sm at *
      have hg1 := hg.nd
      have hsI : (sm : Int) ≤ 8 * (n + 1) := by omega
      have hB2 := hB.alloc hB.size (.cells #[.string (bs g.code), .int .i64 (g.st : Int), .int .i64 (g.nd : Int), .int .i64 (g.tm : Int), .int .i64 g.sa, .int .i64 g.en] 154)
      by_cases hni : n = id
      · have hni2 : ((n : Int) != (id : Int)) = false := by simp [hni]
        have HN : Hid (n = id) := hni
        clear hni
        go_wp2_with fail
        go_roundg (js.length - (n + 1) + 1)
        case measure => omega
        case rel => exact ⟨n + 1, _, rfl, by omega, rfl, by go_num, by rw [HS.out, if_neg (by have := HN.out; omega)]; rfl, hB2⟩
      · have hni2 : ((n : Int) != (id : Int)) = true := by simp; omega
        have HN : Hid (n ≠ id) := hni
        clear hni
        go_wp2_with fail
        have Y : (wz.alloc (.cells #[.string (bs g.code), .int .i64 (g.st : Int), .int .i64 (g.nd : Int), .int .i64 (g.tm : Int), .int .i64 g.sa, .int .i64 g.en] 154)).heap[wz.heap.size]? = _ := whole_new wz (.cells (pjC g) 154 (0, 0))
        generalize wz.alloc (.cells #[.string (bs g.code), .int .i64 (g.st : Int), .int .i64 (g.nd : Int), .int .i64 (g.tm : Int), .int .i64 g.sa, .int .i64 g.en] 154) = x2 at *
        generalize wz.heap.size = hb2 at *
        clear l0 l1 l2 l3 l4 l5
        refine (plHas g hg _).mono ?_
        rintro e x3 ⟨rfl, hX3⟩
        have Y3 := (hX3.block _ (whole_lt Y)).trans Y
        have hB3 := hB2.trans (hX3.mono hB2.size)
        have d0 := whole_cell Y3 0; have d1 := whole_cell Y3 1; have d2 := whole_cell Y3 2; have d3 := whole_cell Y3 3; have d4 := whole_cell Y3 4; have d5 := whole_cell Y3 5
        simp [pjC] at d0 d1 d2 d3 d4 d5
        clear hX3 Y
        cases hh : hasS g with
        | false =>
          go_wp2_with fail
          go_roundg (js.length - (n + 1) + 1)
          case measure => omega
          case rel => exact ⟨n + 1, _, rfl, by omega, rfl, by go_num, by rw [HS.out, if_neg (by rintro ⟨_, q⟩; unfold wantsAt at q; rw [hh] at q; simp at q)]; rfl, hB3⟩
        | true =>
          by_cases hs1 : g.sa ≤ m
          · go_wp2_with fail
            refine (plOver g hg _).mono ?_
            rintro e x4 ⟨rfl, hX4⟩
            have Y4 := (hX4.block _ (whole_lt Y3)).trans Y3
            have hB4 := hB3.trans (hX4.mono hB3.size)
            have f2 := whole_cell Y4 2
            simp [pjC] at f2
            clear d0 d1 d2 d3 d4 d5 hX4 Y3
            by_cases hs2 : m < overJ g
            · go_wp2_with fail
              go_roundg (js.length - (n + 1) + 1)
              case measure => omega
              case rel => exact ⟨n + 1, _, rfl, by omega, rfl, by go_num, by rw [HS.out, if_pos ⟨HN.out, by unfold wantsAt; rw [hh]; simp [hs1, hs2]⟩]; go_num, hB4⟩
            · go_wp2_with fail
              go_roundg (js.length - (n + 1) + 1)
              case measure => omega
              case rel => exact ⟨n + 1, _, rfl, by omega, rfl, by go_num, by rw [HS.out, if_neg (by rintro ⟨_, q⟩; unfold wantsAt at q; simp at q; omega)]; rfl, hB4⟩
          · go_wp2_with fail
            go_roundg (js.length - (n + 1) + 1)
            case measure => omega
            case rel => exact ⟨n + 1, _, rfl, by omega, rfl, by go_num, by rw [HS.out, if_neg (by rintro ⟨_, q⟩; unfold wantsAt at q; simp at q; omega)]; rfl, hB3⟩
    · have hlt' : ¬ (n : Int) < (js.length : Int) := by omega
      have hnl : n = js.length := by omega
      subst hnl
      go_wp2_with fail
      go_ret
      exact ⟨rfl, hB⟩
end Go.Proofs.YtanknpmojblmcaaGreatDoor
