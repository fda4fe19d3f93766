/-
  Package pool: the states of the jobs.
-/
import Derived.Test.YtanknpmojblmcaaGreatDoorPlA
set_option linter.unusedSimpArgs false
set_option linter.unusedVariables false
namespace Go.Proofs.YtanknpmojblmcaaGreatDoor
open Go.RowKit

def sttL (js : List PJ) : List Value := (js.map (·.st)).map iV
theorem sttL_take {js : List PJ} {n : Nat} (h : n < js.length) : sttL (js.take (n + 1)) = sttL (js.take n) ++ [iV js[n].st] := by
  unfold sttL
  rw [List.take_succ_eq_append_getElem h, List.map_append, List.map_append]
  rfl

set_option maxRecDepth 100000 in
set_option maxHeartbeats 1000000 in
theorem plStates (s : Nat) (gv : Value) (nodes : Nat) (now : Int) (jv qv : Value) (js : List PJ) (w : World) (hP : Pl s gv nodes now jv qv w) (hJ : Ps jv js w) (hl : js.length ≤ 1000) (hok : ∀ j ∈ js, PjOK j) :
    Calls Tryz.prog 116 #[.pointer (some ⟨s, 1, none⟩)] w fun e w' => ∃ x, e = .returned x ∧ w'.ownsRow w.heap.size 3 1 x js.length (sttL js) ∧ Below w.heap.size w w' := by
  obtain ⟨i0, hI0, hz0, hz1, hz2⟩ := info_parts infoIntL
  obtain ⟨a, c, rfl⟩ := hJ.form
  have c3 := hP.c 3
  simp at c3
  have HOK : Hid (∀ j ∈ js, PjOK j) := hok
  clear hok
  go_enter Tryz.func116, Tryz.ntmps116
  go_wp2_with fail
  go_loopg [3, 11] (js.length + 1) (fun r sv x wr => ∃ (n : Nat) (wz : World), wz = wr ∧ n ≤ js.length ∧ r = js.length - n + 1 ∧ x = .int .i64 (n : Int) ∧ wz.ownsRow w.heap.size 3 1 sv n (sttL (js.take n)) ∧ Below w.heap.size w wz)
  case atStart => exact ⟨0, _, rfl, Nat.zero_le _, rfl, rfl, World.ownsRow_nil _ _ _ _, Below.refl _ _⟩
  case round =>
    obtain ⟨n, wz, rfl, hn, rfl, rfl, hown, hB⟩ := hrel
    by_cases hlt : n < js.length
    · have hlt' : (n : Int) < (js.length : Int) := by omega
      rcases hJ with ⟨_, rfl⟩ | ⟨b, cap, hv, hcap, hb, hcell⟩
      · simp at hlt
      cases hv
      have hcl : ∀ j, j < 6 → wz.cell? ⟨b, n * 6 + j, none⟩ = (pjC js[n])[j]? := fun j hj => (hB.cell hb).trans (hcell n hlt j hj)
      have l0 := hcl 0 (by omega); have l1 := hcl 1 (by omega); have l2 := hcl 2 (by omega); have l3 := hcl 3 (by omega); have l4 := hcl 4 (by omega); have l5 := hcl 5 (by omega)
      simp [pjC] at l0 l1 l2 l3 l4 l5
      have hg : PjOK js[n] := HOK.out _ (List.getElem_mem hlt)
      have HGD : Hid (js.getD n pj0 = js[n]) := by show _ = _; simp [hlt]
      clear hcl hcell
      clear HGD
      have HS : Hid (sttL (js.take (n + 1)) = sttL (js.take n) ++ [iV js[n].st]) := sttL_take hlt
      generalize js[n] = g at *
      generalize sttL (js.take n) = E at *
      have hsz := hB.size
      go_wp2_with (at_builtin; refine wpList_append_own _ rfl _ _ 36 rfl w.heap.size 3 i0 (.int .i64 0) 1 8 Tryz.underlying36 hI0 hz0 hz1 hz2 rfl (by decide) _ n _ rfl ((hown.alloc _).alloc _) ⟨wz.heap.size + 1, 0, none⟩ 1 1 [.int .i64 (g.st : Int)] rfl rfl ?c1 ?c2 ?c3 ?c4 ?c5 ?_)
      case c1 =>
        have q := whole_new (wz.alloc (.cells #[.string (bs g.code), .int .i64 (g.st : Int), .int .i64 (g.nd : Int), .int .i64 (g.tm : Int), .int .i64 g.sa, .int .i64 g.en] 154)) (.cells #[.int .i64 (g.st : Int)] 3 (0, 0))
        rw [World.size_alloc] at q
        exact World.news_of_block (cs := #[.int .i64 (g.st : Int)]) (t := 3) (fr := (0, 0)) q
      case c2 => first | rfl | (intro u hu; simp at hu; subst hu; rfl)
      case c3 => unfold maxLen; omega
      case c4 => omega
      case c5 => first | omega | (simp; omega)
      intro v4 x4 hown4 hgrow4 _
      have hBx4 : Below w.heap.size w x4 := ((hB.alloc hsz _).alloc (by simp; omega) _).grown hgrow4 (by simp; omega) (fun q hq => (hown.lt q hq).1)
      replace hown4 : x4.ownsRow w.heap.size 3 1 v4 (n + 1) (sttL (js.take (n + 1))) := by
        rw [HS.out]; exact hown4
      clear hgrow4 hown hB
      go_wp2_with fail
      go_roundg (js.length - (n + 1) + 1)
      case measure => omega
      case rel => exact ⟨n + 1, _, rfl, by omega, rfl, by go_num, hown4, hBx4⟩
    · have hlt' : ¬ (n : Int) < (js.length : Int) := by omega
      have hnl : n = js.length := by omega
      subst hnl
      rw [List.take_length] at hown
      go_wp2_with fail
      go_ret
      exact ⟨_, rfl, hown, hB⟩
end Go.Proofs.YtanknpmojblmcaaGreatDoor
