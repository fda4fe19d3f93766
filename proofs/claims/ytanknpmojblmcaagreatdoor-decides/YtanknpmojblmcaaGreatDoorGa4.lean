/-
  PlNw PlMf PlO PlSt PlFr PlRq, put together.
-/
import Derived.Test.YtanknpmojblmcaaGreatDoorGa2
import Derived.Test.YtanknpmojblmcaaGreatDoorGa3
import Derived.Test.YtanknpmojblmcaaGreatDoorPlA
/-
  Package pool: the time.
-/
set_option linter.unusedSimpArgs false
set_option linter.unusedVariables false
namespace Go.Proofs.YtanknpmojblmcaaGreatDoor
open Go.RowKit

variable {D : Nat → Prop} {s : Nat} {p : PS} {gv jv qv : Value} {w w' : World}

set_option maxHeartbeats 1000000 in
theorem plNow (h : SM D s p gv jv qv w) :
    Calls Tryz.prog 56 #[.pointer (some ⟨s, 1, none⟩)] w fun e w' => e = .returned (.int .i64 p.now) ∧ w' = w := by
  have c2 := h.pl.c 2
  simp at c2
  go_enter Tryz.func56, Tryz.ntmps56
  go_wp2_with fail
  go_ret
  exact ⟨rfl, rfl⟩
end Go.Proofs.YtanknpmojblmcaaGreatDoor

/-
  Package pool: Finish.
-/
set_option linter.unusedSimpArgs false
set_option linter.unusedVariables false
namespace Go.Proofs.YtanknpmojblmcaaGreatDoor
open Go.RowKit

variable {D : Nat → Prop} {s : Nat} {p : PS} {gv jv qv : Value} {w w' : World}

set_option maxRecDepth 100000 in
set_option maxHeartbeats 1000000 in
theorem plFinish (h : SM D s p gv jv qv w) (hP : POK p) (id : Int) (ok : Bool) :
    Calls Tryz.prog 121 #[.pointer (some ⟨s, 1, none⟩), .int .i64 id, .bool ok] w fun e w' => e = .returned (.int .i64 ((finishF p id ok).2 : Int)) ∧ (∃ qv', SM D s (finishF p id ok).1 gv jv qv' w') ∧ Keep D w w' := by
  have HP : Hid (POK p) := hP
  have HS : Hid (SM D s p gv jv qv w) := h
  have hl := hP.n.ln
  clear h hP
  cases hh : hasP p id with
  | false =>
    have HE : Hid (finishF p id ok = (p, 11)) := by show _ = _; unfold finishF; rw [if_pos hh]
    go_enter Tryz.func121, Tryz.ntmps121
    go_wp2_with fail
    refine (plHasId HS.out id).mono ?_
    rintro e x1 ⟨he, rfl⟩
    change e = .returned (.bool (hasP p id)) at he
    rw [hh] at he
    subst he
    go_wp2_with fail
    go_ret
    exact ⟨by rw [HE.out]; rfl, ⟨qv, by rw [HE.out]; exact HS.out⟩, Keep.refl _ _⟩
  | true =>
    obtain ⟨h0, hid, hcast⟩ := has_lt (p := p) (id := id) (by rw [hh]; decide)
    obtain ⟨g, cp, rfl⟩ := HS.out.jform hid
    have c3 := HS.out.pl.c 3
    simp at c3
    obtain ⟨_, l1, _, _, _, _⟩ := HS.out.jc hid
    have HG : Hid (p.js.getD id.toNat pj0 = p.js[id.toNat]) := getD_get hid
    have hst := (HP.out.n.js _ (List.getElem_mem hid)).st
    by_cases hs : p.js[id.toNat].st = 2
    · have HE : Hid (finishF p id ok = (settleF (endP p id.toNat (if ok then 3 else 4)), 0)) := by
        show _ = _; unfold finishF; rw [if_neg (by rw [hh]; decide), HG.out, if_neg (by rw [hs]; simp)]
      rw [hs] at l1
      have HO : Hid (∀ st, 3 ≤ st → st ≤ 6 → POK (endP p id.toNat st)) := fun st q1 q2 => endP_ok HP.out _ _ hid (by rw [HG.out, hs]; decide) q2 q1
      have HEP : Hid (∀ st, endP p id.toNat st = { p with js := p.js.set id.toNat ((p.js[id.toNat].toSt st).toEn p.now) }) := fun st => by unfold endP PS.withJ; rw [HG.out]
      obtain ⟨k, rfl⟩ : ∃ k : Nat, id = (k : Int) := ⟨id.toNat, hcast.symm⟩
      simp only [Int.toNat_natCast] at *
      cases ok with
      | true =>
        go_enter Tryz.func121, Tryz.ntmps121
        go_wp2_with fail
        refine (plHasId HS.out (k : Int)).mono ?_
        rintro e x1 ⟨he, rfl⟩
        change e = .returned (.bool (hasP p (k : Int))) at he
        rw [hh] at he
        subst he
        go_wp2_with fail
        refine (plEnd HS.out k 3 hid hl).mono ?_
        rintro e x2 ⟨rfl, h2, k2⟩
        have H2 : Hid (SM D s (endP p k 3) gv (.slice (some ⟨g, 0, none⟩) p.js.length cp) qv x2) := by show SM _ _ _ _ _ _ _; rw [HEP.out 3]; exact h2
        have K2 : Hid (Keep D x1 x2) := k2
        clear h2 k2
        go_wp2_with fail
        refine (plSettle H2.out (HO.out 3 (by omega) (by omega))).mono ?_
        rintro e x3 ⟨rfl, h2, k2⟩
        have H3 : Hid (∃ q, SM D s (settleF (endP p k 3)) gv (.slice (some ⟨g, 0, none⟩) p.js.length cp) q x3) := h2
        have K3 : Hid (Keep D x1 x3) := K2.out.trans k2
        clear h2 k2
        go_wp2_with fail
        go_ret
        exact ⟨by rw [HE.out]; rfl, by rw [HE.out]; exact H3.out, K3.out⟩
      | false =>
        go_enter Tryz.func121, Tryz.ntmps121
        go_wp2_with fail
        refine (plHasId HS.out (k : Int)).mono ?_
        rintro e x1 ⟨he, rfl⟩
        change e = .returned (.bool (hasP p (k : Int))) at he
        rw [hh] at he
        subst he
        go_wp2_with fail
        refine (plEnd HS.out k 4 hid hl).mono ?_
        rintro e x2 ⟨rfl, h2, k2⟩
        have H2 : Hid (SM D s (endP p k 4) gv (.slice (some ⟨g, 0, none⟩) p.js.length cp) qv x2) := by show SM _ _ _ _ _ _ _; rw [HEP.out 4]; exact h2
        have K2 : Hid (Keep D x1 x2) := k2
        clear h2 k2
        go_wp2_with fail
        refine (plSettle H2.out (HO.out 4 (by omega) (by omega))).mono ?_
        rintro e x3 ⟨rfl, h2, k2⟩
        have H3 : Hid (∃ q, SM D s (settleF (endP p k 4)) gv (.slice (some ⟨g, 0, none⟩) p.js.length cp) q x3) := h2
        have K3 : Hid (Keep D x1 x3) := K2.out.trans k2
        clear h2 k2
        go_wp2_with fail
        go_ret
        exact ⟨by rw [HE.out]; rfl, by rw [HE.out]; exact H3.out, K3.out⟩
    · have HE : Hid (finishF p id ok = (p, 12)) := by
        show _ = _; unfold finishF; rw [if_neg (by rw [hh]; decide), HG.out, if_pos hs]
      obtain ⟨k, rfl⟩ : ∃ k : Nat, id = (k : Int) := ⟨id.toNat, hcast.symm⟩
      simp only [Int.toNat_natCast] at *
      have hs' : ((p.js[k].st : Int) == 2) = false := by rw [beq_eq_false_iff_ne]; omega
      have hs2 : ¬ (p.js[k].st : Int) = 2 := by omega
      go_enter Tryz.func121, Tryz.ntmps121
      go_wp2_with fail
      refine (plHasId HS.out (k : Int)).mono ?_
      rintro e x1 ⟨he, rfl⟩
      change e = .returned (.bool (hasP p (k : Int))) at he
      rw [hh] at he
      subst he
      go_wp2_with fail
      go_ret
      exact ⟨by rw [HE.out]; rfl, ⟨qv, by rw [HE.out]; exact HS.out⟩, Keep.refl _ _⟩
end Go.Proofs.YtanknpmojblmcaaGreatDoor

/-
  Package pool: Pass.
-/
set_option linter.unusedSimpArgs false
set_option linter.unusedVariables false
namespace Go.Proofs.YtanknpmojblmcaaGreatDoor
open Go.RowKit

variable {D : Nat → Prop} {s : Nat} {p : PS} {gv jv qv : Value} {w w' : World}

set_option maxRecDepth 100000 in
set_option maxHeartbeats 1000000 in
theorem plPass (h : SM D s p gv jv qv w) (hP : POK p) (hn : p.now < 5000) :
    Calls Tryz.prog 119 #[.pointer (some ⟨s, 1, none⟩)] w fun e w' => e = .returned (.tuple #[]) ∧ (∃ qv', SM D s (passF p) gv jv qv' w') ∧ Keep D w w' := by
  have HP : Hid (POK p) := hP
  have hlo := hP.n.lo
  have hl := hP.n.ln
  obtain ⟨a, c, rfl⟩ := (Ps.of h.jr).form
  have H0 := h.setNow (p.now + 1)
  have K0 := (Keep.refl D w).setCell (p := ⟨s, 2, none⟩) h.ds (.int .i64 (p.now + 1))
  have HW : Hid (p.now + 1 = (p.now + 1)) := rfl
  have c2 := h.pl.c 2
  have z2 := whole_frozen h.pl 2
  simp at c2
  have c3 := H0.pl.c 3
  simp at c3
  have HS : Hid (SM D s { p with now := p.now + 1 } gv (.slice a p.js.length c) qv (w.setCell ⟨s, 2, none⟩ (.int .i64 (p.now + 1)))) := H0
  have HK : Hid (Keep D w (w.setCell ⟨s, 2, none⟩ (.int .i64 (p.now + 1)))) := K0
  clear h hP H0 K0
  go_enter Tryz.func119, Tryz.ntmps119
  go_wp2_with fail
  generalize w.setCell ⟨s, 2, none⟩ (.int .i64 (p.now + 1)) = w1 at *
  have HL : Hid (∀ n, n ≤ p.js.length → POK { p with now := p.now + 1, js := passN (p.now + 1) p.js n } ∧ (passN (p.now + 1) p.js n).length = p.js.length) := fun n hn' => ⟨passN_ok (later_ok HP.out hn) n hn', passN_len _ _ _⟩
  clear c2 c3 z2
  go_loopg [16] (p.js.length + 1) (fun r x wr => ∃ (n : Nat) (wz : World), wz = wr ∧ n ≤ p.js.length ∧ r = p.js.length - n + 1 ∧ x = .int .i64 (n : Int) ∧ Hid (SM D s { p with now := p.now + 1, js := passN (p.now + 1) p.js n } gv (.slice a p.js.length c) qv wz) ∧ Hid (Keep D w wz))
  case atStart => exact ⟨0, _, rfl, Nat.zero_le _, rfl, rfl, HS, HK⟩
  case round =>
    obtain ⟨n, wz, rfl, hnn, rfl, rfl, H1, K1⟩ := hrel
    by_cases hlt : n < p.js.length
    · have hlt' : (n : Int) < (p.js.length : Int) := by omega
      have HSU : Hid (passN (p.now + 1) p.js (n + 1) = if ((passN (p.now + 1) p.js n).getD n pj0).st = 2 ∧ overJ ((passN (p.now + 1) p.js n).getD n pj0) = p.now + 1 then (passN (p.now + 1) p.js n).set n ((((passN (p.now + 1) p.js n).getD n pj0).toSt 4).toEn (p.now + 1)) else passN (p.now + 1) p.js n) := rfl
      obtain ⟨hok, hXl⟩ := HL.out n hnn
      generalize passN (p.now + 1) p.js n = X at *
      have hnX : n < X.length := by omega
      have HOK : Hid (POK { p with now := p.now + 1, js := X }) := hok
      clear hok
      obtain ⟨b, cp, hv⟩ := H1.out.jform (id := n) hnX
      change Value.slice a p.js.length c = .slice (some ⟨b, 0, none⟩) X.length cp at hv
      rw [hXl] at hv
      cases hv
      obtain ⟨l0, l1, l2, l3, l4, l5⟩ := H1.out.jc (k := n) hnX
      change wz.cell? ⟨b, n * 6, none⟩ = some (.string (bs X[n].code)) at l0
      change wz.cell? ⟨b, n * 6 + 1, none⟩ = some (.int .i64 (X[n].st : Int)) at l1
      change wz.cell? ⟨b, n * 6 + 2, none⟩ = some (.int .i64 (X[n].nd : Int)) at l2
      change wz.cell? ⟨b, n * 6 + 3, none⟩ = some (.int .i64 (X[n].tm : Int)) at l3
      change wz.cell? ⟨b, n * 6 + 4, none⟩ = some (.int .i64 X[n].sa) at l4
      change wz.cell? ⟨b, n * 6 + 5, none⟩ = some (.int .i64 X[n].en) at l5
      have hg : PjOK X[n] := HOK.out.n.pj _ (List.getElem_mem (show n < ({ p with now := p.now + 1, js := X } : PS).js.length from hnX))
      have HG : Hid (X.getD n pj0 = X[n]) := getD_get hnX
      rw [HG.out] at HSU
      have HB2 : Hid (Below wz.heap.size wz (wz.alloc (.cells #[.string (bs X[n].code), .int .i64 (X[n].st : Int), .int .i64 (X[n].nd : Int), .int .i64 (X[n].tm : Int), .int .i64 X[n].sa, .int .i64 X[n].en] 154))) := (Below.refl _ wz).alloc (Nat.le_refl _) _
      have Y : (wz.alloc (.cells #[.string (bs X[n].code), .int .i64 (X[n].st : Int), .int .i64 (X[n].nd : Int), .int .i64 (X[n].tm : Int), .int .i64 X[n].sa, .int .i64 X[n].en] 154)).heap[wz.heap.size]? = _ := whole_new wz (.cells (pjC X[n]) 154 (0, 0))
      generalize hgg : X[n] = j at *
      have hst := hg.st
      have H2 : Hid (SM D s { p with now := p.now + 1, js := X } gv (.slice (some ⟨b, 0, none⟩) p.js.length c) qv (wz.alloc (.cells #[.string (bs j.code), .int .i64 (j.st : Int), .int .i64 (j.nd : Int), .int .i64 (j.tm : Int), .int .i64 j.sa, .int .i64 j.en] 154))) := H1.out.below HB2.out
      have K2 : Hid (Keep D w (wz.alloc (.cells #[.string (bs j.code), .int .i64 (j.st : Int), .int .i64 (j.nd : Int), .int .i64 (j.tm : Int), .int .i64 j.sa, .int .i64 j.en] 154))) := K1.out.trans (H1.out.keep HB2.out)
      go_wp2_with fail
      generalize wz.alloc (.cells #[.string (bs j.code), .int .i64 (j.st : Int), .int .i64 (j.nd : Int), .int .i64 (j.tm : Int), .int .i64 j.sa, .int .i64 j.en] 154) = x2 at *
      generalize wz.heap.size = hb2 at *
      clear l0 l1 l2 l3 l4 l5 HB2 H1 K1
      have d0 := whole_cell Y 0; have d1 := whole_cell Y 1; have d2 := whole_cell Y 2; have d3 := whole_cell Y 3; have d4 := whole_cell Y 4; have d5 := whole_cell Y 5
      simp [pjC] at d0 d1 d2 d3 d4 d5
      have c2 := H2.out.pl.c 2
      change x2.cell? ⟨s, 2, none⟩ = some (.int .i64 (p.now + 1)) at c2
      have hsl := H2.out.pl.lt
      by_cases hs : (j.st : Int) = 2
      · have HS' : Hid (j.st = 2) := by show _ = _; omega
        have hs3 : ((j.st : Int) == 2) = true := by simp [hs]
        clear hs
        go_region_with (go_at_call 134; refine (plOver j hg _).mono ?_; rintro e x3 ⟨rfl, hX3⟩; have c2' := (hX3.cell (p := ⟨s, 2, none⟩) hsl).trans c2; have H3 := H2.out.below ((Below.refl _ _).drew.trans hX3); have K3 := K2.out.trans (H2.out.keep ((Below.refl _ _).drew.trans hX3)))
        all_goals
          have H4 : Hid (SM D s { p with now := p.now + 1, js := X } gv (.slice (some ⟨b, 0, none⟩) p.js.length c) qv x3) := H3
          have K4 : Hid (Keep D w x3) := K3
          clear H3 K3 c2' hX3 c2 d0 d1 d2 d3 d4 d5 Y
          by_cases ho : overJ j = p.now + 1
          · have HO : Hid (overJ j = p.now + 1) := ho
            have ho' : (overJ j == p.now + 1) = true := by simp [ho]
            clear ho
            rw [if_pos ⟨HS'.out, HO.out⟩] at HSU
            go_wp2_with fail
            refine (plEnd H4.out n 4 hnX (by show X.length ≤ 24; omega)).mono ?_
            rintro e x5 ⟨rfl, h5, k5⟩
            have H5 : Hid (SM D s { p with now := p.now + 1, js := X.set n ((j.toSt 4).toEn (p.now + 1)) } gv (.slice (some ⟨b, 0, none⟩) p.js.length c) qv x5) := by
              show SM _ _ _ _ _ _ _
              rw [← hgg]; exact h5
            have K5 : Hid (Keep D w x5) := K4.out.trans k5
            clear h5 k5
            go_wp2_with fail
            go_roundg (p.js.length - (n + 1) + 1)
            case measure => omega
            case rel => exact ⟨n + 1, _, rfl, by omega, rfl, by go_num, by rw [HSU.out]; exact H5, K5⟩
          · have ho' : (overJ j == p.now + 1) = false := by simpa using ho
            rw [if_neg (by rintro ⟨_, q⟩; exact ho q)] at HSU
            go_wp2_with fail
            go_roundg (p.js.length - (n + 1) + 1)
            case measure => omega
            case rel => exact ⟨n + 1, _, rfl, by omega, rfl, by go_num, by rw [HSU.out]; exact H4, K4⟩
      · have hs' : ¬ j.st = 2 := by omega
        have hs3 : ((j.st : Int) == 2) = false := by simpa using hs
        rw [if_neg (by rintro ⟨q, _⟩; exact hs' q)] at HSU
        go_region
        have H3 : Hid (SM D s { p with now := p.now + 1, js := X } gv (.slice (some ⟨b, 0, none⟩) p.js.length c) qv x2.drew) := H2.out.below (Below.refl _ _).drew
        have K3 : Hid (Keep D w x2.drew) := K2.out.trans (H2.out.keep (Below.refl _ _).drew)
        go_wp2_with fail
        go_roundg (p.js.length - (n + 1) + 1)
        case measure => omega
        case rel => exact ⟨n + 1, _, rfl, by omega, rfl, by go_num, by rw [HSU.out]; exact H3, K3⟩
    · have hlt' : ¬ (n : Int) < (p.js.length : Int) := by omega
      have hnl : n = p.js.length := by omega
      subst hnl
      have HO := (HL.out p.js.length (Nat.le_refl _)).1
      go_wp2_with fail
      refine (plSettle H1.out HO).mono ?_
      rintro e x3 ⟨rfl, h2, k2⟩
      have H3 : Hid (∃ q, SM D s (passF p) gv (.slice a p.js.length c) q x3) := h2
      have K3 : Hid (Keep D w x3) := K1.out.trans k2
      clear h2 k2
      go_wp2_with fail
      go_end0
      exact ⟨rfl, H3.out, K3.out⟩
end Go.Proofs.YtanknpmojblmcaaGreatDoor

/-
  A system: Tick, Finish.
-/
set_option linter.unusedSimpArgs false
set_option linter.unusedVariables false
namespace Go.Proofs.YtanknpmojblmcaaGreatDoor
open Go.RowKit

variable {D : Nat → Prop} {s : Nat} {p : PS} {gv jv qv : Value} {w w' : World}

set_option maxHeartbeats 1000000 in
theorem syFinish (h : SM D s p gv jv qv w) (hP : POK p) (id : Int) (ok : Bool) :
    Calls Tryz.prog 98 #[.pointer (some ⟨s, 0, none⟩), .int .i64 id, .bool ok] w fun e w' => e = .returned (.int .i64 ((finishF p id ok).2 : Int)) ∧ (∃ qv', SM D s (finishF p id ok).1 gv jv qv' w') ∧ Keep D w w' := by
  have HS : Hid (SM D s p gv jv qv w) := h
  clear h
  go_enter Tryz.func98, Tryz.ntmps98
  go_wp2_with fail
  refine (plFinish HS.out hP id ok).mono ?_
  rintro e x1 ⟨rfl, h1, k1⟩
  go_wp2_with fail
  go_ret
  exact ⟨rfl, h1, k1⟩

set_option maxRecDepth 100000 in
set_option maxHeartbeats 1000000 in
theorem syTick (h : SM D s p gv jv qv w) (hP : POK p) (n : Int) (hnow : p.now ≤ 3000) :
    Calls Tryz.prog 96 #[.pointer (some ⟨s, 0, none⟩), .int .i64 n] w fun e w' => e = .returned (.int .i64 ((tickF p n).2 : Int)) ∧ (∃ qv', SM D s (tickF p n).1 gv jv qv' w') ∧ Keep D w w' := by
  have HS : Hid (SM D s p gv jv qv w) := h
  have HP : Hid (POK p) := hP
  have hlo := hP.n.lo
  clear h hP
  by_cases h1 : n < 1
  · have HE : Hid (tickF p n = (p, 10)) := by show _ = _; unfold tickF; rw [if_pos (Or.inl h1)]
    go_enter Tryz.func96, Tryz.ntmps96
    go_wp2_with fail
    go_ret
    exact ⟨by rw [HE.out]; rfl, ⟨qv, by rw [HE.out]; exact HS.out⟩, Keep.refl _ _⟩
  · by_cases h2 : 200 < n
    · have HE : Hid (tickF p n = (p, 10)) := by show _ = _; unfold tickF; rw [if_pos (Or.inr h2)]
      go_enter Tryz.func96, Tryz.ntmps96
      go_wp2_with fail
      go_ret
      exact ⟨by rw [HE.out]; rfl, ⟨qv, by rw [HE.out]; exact HS.out⟩, Keep.refl _ _⟩
    · by_cases h3 : 3000 < p.now + n
      · have HE : Hid (tickF p n = (p, 13)) := by show _ = _; unfold tickF; rw [if_neg (by rintro (q | q) <;> omega), if_pos h3]
        go_enter Tryz.func96, Tryz.ntmps96
        go_wp2_with fail
        refine (plNow HS.out).mono ?_
        rintro e x1 ⟨rfl, rfl⟩
        go_wp2_with fail
        go_ret
        exact ⟨by rw [HE.out]; rfl, ⟨qv, by rw [HE.out]; exact HS.out⟩, Keep.refl _ _⟩
      · have HE : Hid (tickF p n = (tickN p n.toNat, 0)) := by show _ = _; unfold tickF; rw [if_neg (by rintro (q | q) <;> omega), if_neg h3]
        obtain ⟨m, rfl⟩ : ∃ m : Nat, n = (m : Int) := ⟨n.toNat, by omega⟩
        simp only [Int.toNat_natCast] at HE
        have h3' : ¬ (3000 : Int) < p.now + (m : Int) := h3
        have h3'' : p.now + (m : Int) ≤ 3000 := by omega
        go_enter Tryz.func96, Tryz.ntmps96
        go_wp2_with fail
        refine (plNow HS.out).mono ?_
        rintro e x1 ⟨rfl, rfl⟩
        go_wp2_with fail
        go_loopg [5] (m + 1) (fun r x wr => ∃ (k : Nat) (qx : Value) (wz : World), wz = wr ∧ k ≤ m ∧ r = m - k + 1 ∧ x = .int .i64 (k : Int) ∧ Hid (SM D s (tickN p k) gv jv qx wz) ∧ Hid (Keep D x1 wz))
        case atStart => exact ⟨0, _, _, rfl, Nat.zero_le _, rfl, rfl, HS, Keep.refl _ _⟩
        case round =>
          obtain ⟨k, qx, wz, rfl, hk, rfl, rfl, H1, K1⟩ := hrel
          by_cases hlt : k < m
          · have hlt' : (k : Int) < (m : Int) := by omega
            obtain ⟨hok, hnw⟩ := tickN_ok HP.out k (by omega)
            go_wp2_with fail
            refine (plPass H1.out hok (by omega)).mono ?_
            rintro e x2 ⟨rfl, ⟨q2, h2⟩, k2⟩
            have H2 : Hid (SM D s (tickN p (k + 1)) gv jv q2 x2) := h2
            have K2 : Hid (Keep D x1 x2) := K1.out.trans k2
            clear h2 k2
            go_wp2_with fail
            go_roundg (m - (k + 1) + 1)
            case measure => omega
            case rel => exact ⟨k + 1, q2, _, rfl, by omega, rfl, by go_num, H2, K2⟩
          · have hlt' : ¬ (k : Int) < (m : Int) := by omega
            have hkm : k = m := by omega
            subst hkm
            go_wp2_with fail
            go_ret
            exact ⟨by rw [HE.out]; rfl, ⟨qx, by rw [HE.out]; exact H1.out⟩, K1.out⟩

end Go.Proofs.YtanknpmojblmcaaGreatDoor

/-
  Package pool: the nodes that are free.
-/
set_option linter.unusedSimpArgs false
set_option linter.unusedVariables false
namespace Go.Proofs.YtanknpmojblmcaaGreatDoor
open Go.RowKit

def freeN (nodes : Nat) (js : List PJ) : Nat → Int
  | 0 => nodes
  | n + 1 => freeN nodes js n - (if (js.getD n pj0).st = 2 then ((js.getD n pj0).nd : Int) else 0)
def freeF (nodes : Nat) (js : List PJ) : Int := freeN nodes js js.length
theorem freeN_le (nodes : Nat) (js : List PJ) (h : ∀ j ∈ js, PjOK j) (hn : nodes ≤ 8) : ∀ n, n ≤ js.length → freeN nodes js n ≤ 8 ∧ 0 - 8 * (n : Int) ≤ freeN nodes js n := by
  intro n
  induction n with
  | zero => intro _; unfold freeN; omega
  | succ n ih =>
    intro h0
    have h3 := ih (by omega)
    have h1 : (js.getD n pj0).nd ≤ 8 := by
      have e : js.getD n pj0 = js[n] := by simp [show n < js.length by omega]
      rw [e]; exact (h _ (List.getElem_mem _)).nd
    unfold freeN
    split <;> omega

set_option maxRecDepth 100000 in
set_option maxHeartbeats 1000000 in
theorem plFree (s : Nat) (gv : Value) (nodes : Nat) (now : Int) (jv qv : Value) (js : List PJ) (w : World) (hP : Pl s gv nodes now jv qv w) (hJ : Ps jv js w) (hl : js.length ≤ 1000) (hok : ∀ j ∈ js, PjOK j) (hn8 : nodes ≤ 8) :
    Calls Tryz.prog 57 #[.pointer (some ⟨s, 1, none⟩)] w fun e w' => e = .returned (.int .i64 (freeF nodes js)) ∧ Below w.heap.size w w' := by
  obtain ⟨a, c, rfl⟩ := hJ.form
  have c1 := hP.c 1; have c3 := hP.c 3
  simp at c1 c3
  have HOK : Hid (∀ j ∈ js, PjOK j) := hok
  clear hok
  go_enter Tryz.func57, Tryz.ntmps57
  go_wp2_with fail
  have HF : Hid (∀ n, n ≤ js.length → freeN nodes js n ≤ 8 ∧ 0 - 8 * (n : Int) ≤ freeN nodes js n) := freeN_le nodes js HOK.out hn8
  go_loopg [3, 15] (js.length + 1) (fun r sv x wr => ∃ (n : Nat) (wz : World), wz = wr ∧ n ≤ js.length ∧ r = js.length - n + 1 ∧ x = .int .i64 (n : Int) ∧ sv = .int .i64 (freeN nodes js n) ∧ Below w.heap.size w wz)
  case atStart => exact ⟨0, _, rfl, Nat.zero_le _, rfl, rfl, rfl, Below.refl _ _⟩
  case round =>
    obtain ⟨n, wz, rfl, hn, rfl, rfl, rfl, hB⟩ := hrel
    by_cases hlt : n < js.length
    · have hlt' : (n : Int) < (js.length : Int) := by omega
      rcases hJ with ⟨_, rfl⟩ | ⟨b, cap, hv, hcap, hb, hcell⟩
      · simp at hlt
      cases hv
      have hcl : ∀ j, j < 6 → wz.cell? ⟨b, n * 6 + j, none⟩ = (pjC js[n])[j]? := fun j hj => (hB.cell hb).trans (hcell n hlt j hj)
      have l0 := hcl 0 (by omega); have l1 := hcl 1 (by omega); have l2 := hcl 2 (by omega); have l3 := hcl 3 (by omega); have l4 := hcl 4 (by omega); have l5 := hcl 5 (by omega)
      simp [pjC] at l0 l1 l2 l3 l4 l5
      have hg : PjOK js[n] := HOK.out _ (List.getElem_mem hlt)
      have HGD : Hid (js.getD n pj0 = js[n]) := by show _ = _; simp [hlt]
      clear hcl hcell
      have HS : Hid (freeN nodes js (n + 1) = freeN nodes js n - (if js[n].st = 2 then (js[n].nd : Int) else 0)) := by
        show _ = _
        rw [← HGD.out]; rfl
      clear HGD
      generalize js[n] = g at *
      obtain ⟨hf1, hf2⟩ := HF.out n hn
      generalize freeN nodes js n = sm at *
      have hB2 := hB.alloc hB.size (.cells #[.string (bs g.code), .int .i64 (g.st : Int), .int .i64 (g.nd : Int), .int .i64 (g.tm : Int), .int .i64 g.sa, .int .i64 g.en] 154)
      have hg1 := hg.nd
      have hg2 := hg.st
      by_cases hs : (g.st : Int) = 2
      · rw [hs] at l1
        rw [hs] at hB2
        have hs' : g.st = 2 := by omega
        rw [if_pos hs'] at HS
        go_wp2_with fail
        go_roundg (js.length - (n + 1) + 1)
        case measure => omega
        case rel => exact ⟨n + 1, _, rfl, by omega, rfl, by go_num, by rw [HS.out], hB2⟩
      · have hs' : ¬ g.st = 2 := by omega
        have hs3 : ((g.st : Int) == 2) = false := by simpa using hs
        rw [if_neg hs'] at HS
        go_wp2_with fail
        go_roundg (js.length - (n + 1) + 1)
        case measure => omega
        case rel => exact ⟨n + 1, _, rfl, by omega, rfl, by go_num, by rw [HS.out]; simp, hB2⟩
    · have hlt' : ¬ (n : Int) < (js.length : Int) := by omega
      have hnl : n = js.length := by omega
      subst hnl
      go_wp2_with fail
      go_ret
      exact ⟨rfl, hB⟩

end Go.Proofs.YtanknpmojblmcaaGreatDoor

/-
  A system's answers: Queue, Code, Clock.
-/
set_option linter.unusedSimpArgs false
set_option linter.unusedVariables false
namespace Go.Proofs.YtanknpmojblmcaaGreatDoor
open Go.RowKit

variable {D : Nat → Prop} {s : Nat} {p : PS} {gv jv qv : Value} {w w' : World}

theorem iV_take {qs : List Nat} {n : Nat} (h : n < qs.length) : (qs.take (n + 1)).map iV = (qs.take n).map iV ++ [iV qs[n]] := by
  rw [List.take_succ_eq_append_getElem h, List.map_append]; rfl

set_option maxRecDepth 100000 in
set_option maxHeartbeats 1000000 in
theorem plQueue (h : SM D s p gv jv qv w) (hl : p.qs.length ≤ 24) :
    Calls Tryz.prog 103 #[.pointer (some ⟨s, 1, none⟩)] w fun e w' => ∃ x, e = .returned x ∧ w'.ownsRow w.heap.size 3 1 x p.qs.length (p.qs.map iV) ∧ Below w.heap.size w w' := by
  obtain ⟨i0, hI0, hz0, hz1, hz2⟩ := info_parts infoIntL
  obtain ⟨a, c, rfl⟩ := (Ns.of h.qr).form
  have c4 := h.pl.c 4
  simp at c4
  have HQ : Hid (Ns (.slice a p.qs.length c) p.qs w) := Ns.of h.qr
  clear h
  go_enter Tryz.func103, Tryz.ntmps103
  go_wp2_with fail
  go_loopg [3, 11] (p.qs.length + 1) (fun r sv x wr => ∃ (n : Nat) (wz : World), wz = wr ∧ n ≤ p.qs.length ∧ r = p.qs.length - n + 1 ∧ x = .int .i64 (n : Int) ∧ wz.ownsRow w.heap.size 3 1 sv n ((p.qs.take n).map iV) ∧ Below w.heap.size w wz)
  case atStart => exact ⟨0, _, rfl, Nat.zero_le _, rfl, rfl, World.ownsRow_nil _ _ _ _, Below.refl _ _⟩
  case round =>
    obtain ⟨n, wz, rfl, hn, rfl, rfl, hown, hB⟩ := hrel
    by_cases hlt : n < p.qs.length
    · have hlt' : (n : Int) < (p.qs.length : Int) := by omega
      rcases HQ.out with ⟨_, he⟩ | ⟨b, cap, hv, hcap, hb, hcell⟩
      · rw [he] at hlt; simp at hlt
      cases hv
      have l0 := (hB.cell (p := ⟨b, n, none⟩) hb).trans (hcell n hlt)
      clear hcell
      have HS : Hid ((p.qs.take (n + 1)).map iV = (p.qs.take n).map iV ++ [iV p.qs[n]]) := iV_take hlt
      generalize p.qs[n] = o at *
      generalize (p.qs.take n).map iV = E at *
      have hsz := hB.size
      go_wp2_with (at_builtin; refine wpList_append_lies _ rfl _ _ 36 rfl w.heap.size 3 i0 (.int .i64 0) 1 8 Tryz.underlying36 hI0 hz0 hz1 hz2 rfl (by decide) _ n _ rfl (hown.alloc _) ⟨wz.heap.size, 0, none⟩ 1 1 [.int .i64 (o : Int)] rfl rfl (World.news_of_block (cs := #[.int .i64 (o : Int)]) (t := 3) (fr := (0, 0)) (heap_alloc_new wz _)) ?c2 (by decide) ?c3 ?c4 ?c5 _ rfl ?_)
      case c2 => first | rfl | (intro u hu; simp at hu; subst hu; rfl)
      case c3 => unfold maxLen; omega
      case c4 => omega
      case c5 => first | omega | (simp; omega)
      intro g4 cap4 x4 hown4 hgrow4 hat4 hlt4
      have hB4 : Below w.heap.size w x4 := (hB.alloc hsz _).grown hgrow4 (by simp; omega) (fun q hq => (hown.lt q hq).1)
      replace hown4 : x4.ownsRow w.heap.size 3 1 (.slice (some ⟨g4, 0, none⟩) (n + 1) cap4) (n + 1) ((p.qs.take (n + 1)).map iV) := by
        rw [HS.out]; exact hown4
      clear hgrow4 hown hB hat4
      go_wp2_with fail
      go_roundg (p.qs.length - (n + 1) + 1)
      case measure => omega
      case rel => exact ⟨n + 1, _, rfl, by omega, rfl, by go_num, hown4, hB4⟩
    · have hlt' : ¬ (n : Int) < (p.qs.length : Int) := by omega
      have hnl : n = p.qs.length := by omega
      subst hnl
      rw [List.take_length] at hown
      go_wp2_with fail
      go_ret
      exact ⟨_, rfl, hown, hB⟩

set_option maxHeartbeats 1000000 in
theorem syQueue (h : SM D s p gv jv qv w) (hl : p.qs.length ≤ 24) :
    Calls Tryz.prog 68 #[.pointer (some ⟨s, 0, none⟩)] w fun e w' => ∃ x, e = .returned x ∧ w'.ownsRow w.heap.size 3 1 x p.qs.length (p.qs.map iV) ∧ Below w.heap.size w w' := by
  have HS : Hid (SM D s p gv jv qv w) := h
  clear h
  go_enter Tryz.func68, Tryz.ntmps68
  go_wp2_with fail
  refine (plQueue HS.out hl).mono ?_
  rintro e x1 ⟨x, rfl, hown, hB⟩
  go_wp2_with fail
  go_ret
  exact ⟨_, rfl, hown, hB⟩

def codeP (p : PS) (id : Int) : List UInt8 × Nat := if hasP p id = false then ([], 11) else ((p.js.getD id.toNat pj0).code, 0)

set_option maxHeartbeats 1000000 in
theorem plCode (h : SM D s p gv jv qv w) (id : Int) (hl : p.js.length ≤ 24) :
    Calls Tryz.prog 101 #[.pointer (some ⟨s, 1, none⟩), .int .i64 id] w fun e w' => e = .returned (.tuple #[.string (bs (codeP p id).1), .int .i64 ((codeP p id).2 : Int)]) ∧ w' = w := by
  have HS : Hid (SM D s p gv jv qv w) := h
  clear h
  cases hh : hasP p id with
  | false =>
    have HE : Hid (codeP p id = ([], 11)) := by show _ = _; unfold codeP; rw [if_pos hh]
    go_enter Tryz.func101, Tryz.ntmps101
    go_wp2_with fail
    refine (plHasId HS.out id).mono ?_
    rintro e x1 ⟨he, rfl⟩
    change e = .returned (.bool (hasP p id)) at he
    rw [hh] at he
    subst he
    go_wp2_with fail
    go_ret2
    exact ⟨by rw [HE.out]; rfl, rfl⟩
  | true =>
    obtain ⟨h0, hid, hcast⟩ := has_lt (p := p) (id := id) (by rw [hh]; decide)
    obtain ⟨g, cp, rfl⟩ := HS.out.jform hid
    have c3 := HS.out.pl.c 3
    simp at c3
    obtain ⟨l0, _, _, _, _, _⟩ := HS.out.jc hid
    have HE : Hid (codeP p id = (p.js[id.toNat].code, 0)) := by show _ = _; unfold codeP; rw [if_neg (by rw [hh]; decide), getD_get hid]
    obtain ⟨k, rfl⟩ : ∃ k : Nat, id = (k : Int) := ⟨id.toNat, hcast.symm⟩
    simp only [Int.toNat_natCast] at *
    go_enter Tryz.func101, Tryz.ntmps101
    go_wp2_with fail
    refine (plHasId HS.out (k : Int)).mono ?_
    rintro e x1 ⟨he, rfl⟩
    change e = .returned (.bool (hasP p (k : Int))) at he
    rw [hh] at he
    subst he
    go_wp2_with fail
    go_ret2
    exact ⟨by rw [HE.out]; rfl, rfl⟩

set_option maxHeartbeats 1000000 in
theorem syCode (h : SM D s p gv jv qv w) (id : Int) (hl : p.js.length ≤ 24) :
    Calls Tryz.prog 64 #[.pointer (some ⟨s, 0, none⟩), .int .i64 id] w fun e w' => e = .returned (.tuple #[.string (bs (codeP p id).1), .int .i64 ((codeP p id).2 : Int)]) ∧ w' = w := by
  have HS : Hid (SM D s p gv jv qv w) := h
  clear h
  go_enter Tryz.func64, Tryz.ntmps64
  go_wp2_with fail
  refine (plCode HS.out id hl).mono ?_
  rintro e x1 ⟨rfl, rfl⟩
  go_wp2_with fail
  go_ret2
  exact ⟨rfl, rfl⟩

theorem clk_next {x w' : World} (hB : Below x.heap.size x w') (hS : SM D s p gv jv qv x ∧ Below w.heap.size w x) : SM D s p gv jv qv w' ∧ Below w.heap.size w w' := ⟨hS.1.below hB, hS.2.trans (hB.mono hS.2.size)⟩
set_option maxHeartbeats 1000000 in
theorem syClock (h : SM D s p gv jv qv w) (hN : NOK p) :
    Calls Tryz.prog 29 #[.pointer (some ⟨s, 0, none⟩)] w fun e w' => e = .returned (.tuple #[.int .i64 p.now, .int .i64 (freeF p.nodes p.js), .int .i64 (p.js.length : Int)]) ∧ Below w.heap.size w w' := by
  have HN : Hid (NOK p) := hN
  have hl := hN.ln
  have hn8 := hN.nd
  clear hN
  go_enter Tryz.func29, Tryz.ntmps29
  go_wp2_with fail
  have h0 : SM D s p gv jv qv w.drew ∧ Below w.heap.size w w.drew := ⟨h.below (Below.refl _ _).drew, (Below.refl _ _).drew⟩
  go_region_held3 (fun w' => SM D s p gv jv qv w' ∧ Below w.heap.size w w')
    (first | exact h0 | assumption)
    (first
      | (go_at_call 56; refine (plNow (And.left (by assumption))).mono ?_; rintro e w' ⟨rfl, rfl⟩)
      | (go_at_call 20; refine (plCount (And.left (by assumption))).mono ?_; rintro e w' ⟨rfl, rfl⟩)
      | (go_at_call 57; refine (plFree s gv p.nodes p.now jv qv p.js _ (SM.pl (And.left (by assumption))) (Ps.of (SM.jr (And.left (by assumption)))) (by omega) HN.out.pj hn8).mono ?_; rintro e w' ⟨rfl, hBf⟩; have hSf := clk_next (w := w) hBf (by assumption); clear hBf))
  all_goals
    go_wp2_with fail
    go_ret3
    exact ⟨rfl, And.right (by assumption)⟩

end Go.Proofs.YtanknpmojblmcaaGreatDoor
