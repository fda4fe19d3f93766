/-
  An atom of a want.
-/
import Derived.Test.YtanknpmojblmcaaDoorKEnv
set_option linter.unusedSimpArgs false
set_option linter.unusedVariables false
namespace Go.Proofs.YtanknpmojblmcaaDoor
open Go.RowKit

attribute [local go_sem ↓] Go.wp_at_zero Go.wp_at_succ

theorem beqF' {a b : Int} (h : a ≠ b) : (a == b) = false := by rw [beq_eq_false_iff_ne]; exact h
/-- What making a part of a want leaves. -/
def AtmR (b f h : Nat) (v : Value) (bn bj : Nat) (ms : List MV) (ov : Value) (on : List (List UInt8)) (m : MV) (c : Nat) (w : World) (P : List UInt8 → Prop) (e : Ending) (w' : World) : Prop :=
  ∃ t pa pn pc, e = .returned (.string (bs t)) ∧ P t ∧ Env b f h v bn bj ms ov on { m with pa := pa, pn := pn, pc := pc } c w' ∧ Upon f h w w'

set_option maxRecDepth 100000 in
set_option maxHeartbeats 8000000 in
theorem atom_any (b f h : Nat) (v : Value) (bn bj : Nat) (ms : List MV) (ov : Value) (on : List (List UInt8)) (m : MV) (c : Nat) (w : World) (E : Env b f h v bn bj ms ov on m c w) (hc : c ≤ 150) (hl : ms.length ≤ 6) (hol : on.length ≤ 3)
    (hg : ∀ x ∈ ms, GoodM x) (hmb : m.batch ≤ 100) :
    Calls Tryd.prog 21 #[.pointer (some ⟨b, 0, none⟩), .pointer (some ⟨f, 0, none⟩), .int .i64 (ms.length : Int), ov, .pointer (some ⟨h, 0, none⟩)] w (AtmR b f h v bn bj ms ov on m (c + 13) w AtomT) := by
  unfold AtmR
  obtain ⟨i0, hI0, hz0, hz1, hz2⟩ := info_parts infoPart
  obtain ⟨oa, oc, rfl⟩ := E.ow.form
  have U0 := Upon.refl f h w
  go_enter Tryd.func21, Tryd.ntmps21
  go_wp2_with fail
  refine (next_any f 5 _ E.fd (by omega) (by omega)).mono ?_
  rintro e w1 ⟨c1, hc1, rfl, hf1, ha1⟩
  have U1 := U0.trans (Upon.aside ha1 (Nat.le_of_lt E.hlt))
  replace E := E.feed ha1 hf1
  clear ha1 hf1 U0
  go_wp2_with fail
  refine (letters_any c1 (by omega) _).mono ?_
  rintro e w2 ⟨rfl, hB2⟩
  have U2 := U1.trans (Upon.below (hB2.mono (Nat.le_of_lt E.hlt)))
  replace E := E.below hB2
  clear hB2 U1
  go_wp2_with fail
  refine (latest_any b v bn bj ms ms.length _ _ E.bk E.mr (Nat.le_refl _) (by omega)).mono ?_
  rintro e w3 ⟨hk, hB3⟩
  have U3 := U2.trans (Upon.below (hB3.mono (Nat.le_of_lt E.hlt)))
  replace E := E.below hB3
  clear hB3 U2
  -- the way to 'single'
  have SING : ∀ (w9 : World), Env b f h v bn bj ms (.slice oa on.length oc) on m c w9 → Calls Tryd.prog 28 #[.pointer (some ⟨b, 0, none⟩), .pointer (some ⟨h, 0, none⟩)] w9 fun e w' => e = .returned (.tuple #[]) ∧ ∃ pa pn pc, Env b f h v bn bj ms (.slice oa on.length oc) on { m with pa := pa, pn := pn, pc := pc } (c + 13) w' ∧ Upon f h w9 w' := by
    intro w9 E9
    refine (single_any b h v bn bj ms m c w9 E9.bk E9.mr E9.bh E9.vh hl E9.md E9.pt (by omega)).mono ?_
    rintro e w' ⟨rfl, pa, pn, pc, p1, p2, p3⟩
    exact ⟨rfl, pa, pn, pc, E9.next p3 p1 p2, Upon.below p3⟩
  have HSG : Hid _ := SING
  clear SING
  rcases hk with rfl | ⟨k, hkl, hkn, hnm, rfl⟩
  · go_wp2_with fail
    go_quiet (fail)
    go_wp2_with fail
    refine (HSG.out _ (E.drewN _)).mono ?_
    rintro e w4 ⟨rfl, pa, pn, pc, E4, U4⟩
    go_wp2_with fail
    go_ret
    exact ⟨[115, 105, 110, 103, 108, 101], pa, pn, pc, rfl, atomT_single, E4, (U3.trans (Upon.below (below_drewN (Below.refl h _) _))).trans U4⟩
  · have hgk := hg ms[k] (List.getElem_mem hkl)
    rcases E.mr with ⟨_, hms⟩ | ⟨g, cap, rfl, hcap, hgl, hcell⟩
    · rw [hms] at hkl; simp at hkl
    have hb0 := E.bk.c 0
    simp at hb0
    have hgh : g < h := E.vh g rfl
    have hkl' : (k : Int) < (ms.length : Int) := by omega
    have l0 := hcell k hkl 0 (by omega); have l1 := hcell k hkl 1 (by omega); have l2 := hcell k hkl 2 (by omega); have l3 := hcell k hkl 3 (by omega); have l4 := hcell k hkl 4 (by omega); have l5 := hcell k hkl 5 (by omega); have l6 := hcell k hkl 6 (by omega); have l7 := hcell k hkl 7 (by omega); have l8 := hcell k hkl 8 (by omega); have l9 := hcell k hkl 9 (by omega); have l10 := hcell k hkl 10 (by omega); have l11 := hcell k hkl 11 (by omega)
    generalize ms[k] = y at *
    simp [mvC] at l0 l1 l2 l3 l4 l5 l6 l7 l8 l9 l10 l11
    have hm0 := E.md.c 0
    simp [mvC] at hm0
    have HC : Hid _ := hcell
    clear hcell hnm
    by_cases hbt : y.batch < m.batch
    · have hbt' : (y.batch : Int) < (m.batch : Int) := by omega
      go_wp2_with fail
      go_quiet (fail)
      go_wp2_with fail
      go_loopg [12, 13] (on.length + 1) (fun r x z wr => ∃ (i n : Nat), i ≤ on.length ∧ r = on.length - i + 1 ∧ x = .int .i64 (k : Int) ∧ z = .int .i64 (i : Int) ∧ wr = w3.drewN n)
      case atStart => exact ⟨0, _, Nat.zero_le _, rfl, rfl, rfl, rfl⟩
      case round =>
        obtain ⟨i, n, hi, rfl, rfl, rfl, rfl⟩ := hrel
        by_cases hlt : i < on.length
        · have hlt' : (i : Int) < (on.length : Int) := by omega
          rcases E.ow with ⟨_, hon⟩ | ⟨og, ocap, hq, hoc, hog, hocell⟩
          · rw [hon] at hlt; simp at hlt
          cases hq
          have oi := hocell i hlt
          clear hocell
          have hb2 : ((bs on[i]).toList == (bs y.job.name).toList) = (on[i] == y.job.name) := by rw [bs_toList, bs_toList]
          cases he : (on[i] == y.job.name) with
          | true =>
            rw [he] at hb2
            clear he
            go_wp2_with fail
            go_quiet (fail)
            go_wp2_with fail
            refine (HSG.out _ (E.drewN _)).mono ?_
            rintro e w4 ⟨rfl, pa, pn, pc, E4, U4⟩
            go_wp2_with fail
            go_ret
            exact ⟨[115, 105, 110, 103, 108, 101], pa, pn, pc, rfl, atomT_single, E4, (U3.trans (Upon.below (below_drewN (Below.refl h _) _))).trans U4⟩
          | false =>
            rw [he] at hb2
            clear he
            go_wp2_with fail
            go_quiet (fail)
            go_wp2_with fail
            go_roundg (on.length - (i + 1) + 1)
            case measure => omega
            case rel => exact ⟨i + 1, _, by omega, rfl, rfl, by go_num, rfl⟩
        · have hlt' : decide ((i : Int) < (on.length : Int)) = false := by simp; omega
          replace E := E.drewN n
          replace U3 := U3.trans (Upon.below (below_drewN (Below.refl h w3) n))
          replace hb0 : (w3.drewN n).cell? ⟨b, 0, none⟩ = _ := hb0
          replace l0 : (w3.drewN n).cell? ⟨g, k * 12, none⟩ = _ := l0; replace l1 : (w3.drewN n).cell? ⟨g, k * 12 + 1, none⟩ = _ := l1; replace l2 : (w3.drewN n).cell? ⟨g, k * 12 + 2, none⟩ = _ := l2; replace l3 : (w3.drewN n).cell? ⟨g, k * 12 + 3, none⟩ = _ := l3; replace l4 : (w3.drewN n).cell? ⟨g, k * 12 + 4, none⟩ = _ := l4; replace l5 : (w3.drewN n).cell? ⟨g, k * 12 + 5, none⟩ = _ := l5; replace l6 : (w3.drewN n).cell? ⟨g, k * 12 + 6, none⟩ = _ := l6; replace l7 : (w3.drewN n).cell? ⟨g, k * 12 + 7, none⟩ = _ := l7; replace l8 : (w3.drewN n).cell? ⟨g, k * 12 + 8, none⟩ = _ := l8; replace l9 : (w3.drewN n).cell? ⟨g, k * 12 + 9, none⟩ = _ := l9; replace l10 : (w3.drewN n).cell? ⟨g, k * 12 + 10, none⟩ = _ := l10; replace l11 : (w3.drewN n).cell? ⟨g, k * 12 + 11, none⟩ = _ := l11
          clear HC hm0 hgl
          generalize w3.drewN n = wz at *
          go_wp2_with fail
          have YG : ((wz.alloc (.cells #[.int .i64 (y.batch : Int), .string (bs y.job.name), .int .i64 (y.job.nodes : Int), .int .i64 (y.job.time : Int), .bool y.job.arr, .int .i64 (y.job.lo : Int), .int .i64 (y.job.hi : Int), .string (bs y.job.after), .int .i64 (y.first : Int), .int .i64 (y.count : Int), .string (bs y.want), .slice y.pa y.pn y.pc] 35)).alloc (.cells #[.int .i64 0, .int .i64 (y.first : Int), .int .i64 (y.count : Int)] 65)).heap[wz.heap.size]? = some (.cells #[.int .i64 (y.batch : Int), .string (bs y.job.name), .int .i64 (y.job.nodes : Int), .int .i64 (y.job.time : Int), .bool y.job.arr, .int .i64 (y.job.lo : Int), .int .i64 (y.job.hi : Int), .string (bs y.job.after), .int .i64 (y.first : Int), .int .i64 (y.count : Int), .string (bs y.want), .slice y.pa y.pn y.pc] 35 (0, 0)) := whole_alloc (whole_new wz _) _
          have YP : ((wz.alloc (.cells #[.int .i64 (y.batch : Int), .string (bs y.job.name), .int .i64 (y.job.nodes : Int), .int .i64 (y.job.time : Int), .bool y.job.arr, .int .i64 (y.job.lo : Int), .int .i64 (y.job.hi : Int), .string (bs y.job.after), .int .i64 (y.first : Int), .int .i64 (y.count : Int), .string (bs y.want), .slice y.pa y.pn y.pc] 35)).alloc (.cells #[.int .i64 0, .int .i64 (y.first : Int), .int .i64 (y.count : Int)] 65)).heap[wz.heap.size + 1]? = some (.cells #[.int .i64 0, .int .i64 (y.first : Int), .int .i64 (y.count : Int)] 65 (0, 0)) := by
            have := whole_new (wz.alloc (.cells #[.int .i64 (y.batch : Int), .string (bs y.job.name), .int .i64 (y.job.nodes : Int), .int .i64 (y.job.time : Int), .bool y.job.arr, .int .i64 (y.job.lo : Int), .int .i64 (y.job.hi : Int), .string (bs y.job.after), .int .i64 (y.first : Int), .int .i64 (y.count : Int), .string (bs y.want), .slice y.pa y.pn y.pc] 35)) (.cells #[.int .i64 0, .int .i64 (y.first : Int), .int .i64 (y.count : Int)] 65 (0, 0))
            rw [World.size_alloc] at this; exact this
          have hgb := E.hlt
          have hro : (Value.slice m.pa m.pn m.pc).ownBlock ≠ some (wz.heap.size + 1) := by
            obtain ⟨n', xs', _, hown⟩ := E.pt
            intro q; have := (hown.lt _ q).2; omega
          replace E := (E.alloc (.cells #[.int .i64 (y.batch : Int), .string (bs y.job.name), .int .i64 (y.job.nodes : Int), .int .i64 (y.job.time : Int), .bool y.job.arr, .int .i64 (y.job.lo : Int), .int .i64 (y.job.hi : Int), .string (bs y.job.after), .int .i64 (y.first : Int), .int .i64 (y.count : Int), .string (bs y.want), .slice y.pa y.pn y.pc] 35)).alloc (.cells #[.int .i64 0, .int .i64 (y.first : Int), .int .i64 (y.count : Int)] 65)
          replace U3 := U3.trans (Upon.below (((Below.refl h wz).alloc (by omega) (.cells #[.int .i64 (y.batch : Int), .string (bs y.job.name), .int .i64 (y.job.nodes : Int), .int .i64 (y.job.time : Int), .bool y.job.arr, .int .i64 (y.job.lo : Int), .int .i64 (y.job.hi : Int), .string (bs y.job.after), .int .i64 (y.first : Int), .int .i64 (y.count : Int), .string (bs y.want), .slice y.pa y.pn y.pc] 35)).alloc (by simp; omega) (.cells #[.int .i64 0, .int .i64 (y.first : Int), .int .i64 (y.count : Int)] 65)))
          clear l0 l1 l2 l3 l4 l5 l6 l7 l8 l9 l10 l11 hb0
          generalize (wz.alloc (.cells #[.int .i64 (y.batch : Int), .string (bs y.job.name), .int .i64 (y.job.nodes : Int), .int .i64 (y.job.time : Int), .bool y.job.arr, .int .i64 (y.job.lo : Int), .int .i64 (y.job.hi : Int), .string (bs y.job.after), .int .i64 (y.first : Int), .int .i64 (y.count : Int), .string (bs y.want), .slice y.pa y.pn y.pc] 35)).alloc (.cells #[.int .i64 0, .int .i64 (y.first : Int), .int .i64 (y.count : Int)] 65) = x at *
          generalize hgbe : wz.heap.size = gb at *
          clear hgbe
          have hfh := E.fh
          refine (next_any f 3 _ E.fd (by omega) (by omega)).mono ?_
          rintro e x1 ⟨k3, hk3, rfl, hf1, ha1⟩
          have U4 := U3.trans (Upon.aside ha1 (Nat.le_of_lt E.hlt))
          have E4 := E.feed ha1 hf1
          replace YG := (ha1.block gb (whole_lt YG) (by omega)).trans YG
          replace YP := (ha1.block (gb + 1) (whole_lt YP) (by omega)).trans YP
          clear ha1 hf1 E U3
          have yg1 := whole_cell YG 1; have yg4 := whole_cell YG 4; have yg5 := whole_cell YG 5; have yg8 := whole_cell YG 8; have yg9 := whole_cell YG 9
          have yp0 := whole_cell YP 0; have yp1 := whole_cell YP 1; have yp2 := whole_cell YP 2; have zp0 := whole_frozen YP 0
          simp at yg1 yg4 yg5 yg8 yg9 yp0 yp1 yp2
          have hsn := bs_size y.job.name
          have hj6 := hgk.1.nm6
          have hge : gb ≠ gb + 1 := by omega
          cases harr : y.job.arr with
          | false =>
            rw [harr] at yg4
            by_cases hk0 : k3 = 0
            · subst hk0
              have HT : Hid (AtomT (opW 0 ++ y.job.name)) := atomT_ref hgk.1 0
              go_wp2_with fail
              have E5 := E4.setCell (p := ⟨gb + 1, 0, none⟩) (by show h < gb + 1; omega) hro (.int .i64 1)
              have U5 := U4.trans (Upon.below ((Below.refl h x1).setCell (p := ⟨gb + 1, 0, none⟩) (by show h ≤ gb + 1; omega) (.int .i64 1)))
              have YPP := whole_set YP 0 (.int .i64 1)
              simp at YPP
              obtain ⟨q0, q1, q2, YQ⟩ : ∃ q0 q1 q2 : Int, (x1.setCell ⟨gb + 1, 0, none⟩ (.int .i64 1)).heap[gb + 1]? = some (.cells #[.int .i64 q0, .int .i64 q1, .int .i64 q2] 65 (0, 0)) := ⟨_, _, _, YPP⟩
              clear YPP
              generalize (x1.setCell ⟨gb + 1, 0, none⟩ (.int .i64 1)) = z at *
              obtain ⟨n', xs', hn', hown⟩ := E5.pt
              have md := E5.md
              have hhx := md.lt
              have hyx := whole_lt YQ
              have y0 := whole_cell YQ 0; have y1 := whole_cell YQ 1; have y2 := whole_cell YQ 2
              simp at y0 y1 y2
              have m11 := md.c 11; have z11 := md.z 11
              simp [mvC] at m11
              have ah : (Value.slice m.pa m.pn m.pc).ownBlock ≠ some h := by intro q; have := (hown.lt h q).1; omega
              have fz : ∀ o, (z.alloc o).drew.frozen? ⟨h, 11, none⟩ = false := fun o => whole_frozen (w := (z.alloc o).drew) (whole_alloc md o) 11
              go_region_law
                ((refine step_append_lies _ (by rfl) _ _ _ (by rfl) (h + 1) 65 i0 _ 3 24 Tryd.underlying33 hI0 hz0 hz1 hz2 rfl (by omega) (.slice m.pa m.pn m.pc) n' xs' (by rfl) ((hown.alloc _).drew)
                    ⟨z.heap.size, 0, none⟩ 1 1 [.int .i64 q0, .int .i64 q1, .int .i64 q2] (by rfl) (by rfl) (World.news_of_block (cs := #[.int .i64 q0, .int .i64 q1, .int .i64 q2]) (t := 65) (fr := (0, 0)) (heap_alloc_new z _)) (by simp [Value.oneCell'])
                    (by omega) (by unfold maxLen; omega) (by omega) (by simp; omega) (z.heap.size + 1) (by simp) ?_; intro g3 cap3 w33 hown3 hgrow3 hat3 hlt3; have m3 : Md h m w33 := (hgrow3.block h (by simp; omega) (Ne.symm ah)).trans (whole_alloc md _); have m3c := m3.c 11; have m3z := m3.z 11; simp [mvC] at m3c))
              all_goals
                obtain ⟨p1, p2, p3, p4, p5⟩ := parts_grow (m := m) (x := (z.alloc (.cells #[.int .i64 q0, .int .i64 q1, .int .i64 q2] 65)).drew) (whole_alloc md _) ((hown.alloc _).drew) hgrow3 hown3
                replace p5 := ((Below.refl h z).alloc (by omega) _).drew.trans p5
                clear hgrow3 hat3 m3 m3z p1 p2 fz
                go_wp2_with fail
                go_ret
                exact ⟨opW 0 ++ y.job.name, _, _, _, ret_str (by rw [← bs_append]; rfl), HT.out, E5.next p5 p3 ⟨n' + 1, _, by omega, p4⟩, U5.trans (Upon.below p5)⟩
            by_cases hk1 : k3 = 1
            · subst hk1
              have HT : Hid (AtomT (opW 1 ++ y.job.name)) := atomT_ref hgk.1 1
              go_wp2_with fail
              have E5 := E4.setCell (p := ⟨gb + 1, 0, none⟩) (by show h < gb + 1; omega) hro (.int .i64 2)
              have U5 := U4.trans (Upon.below ((Below.refl h x1).setCell (p := ⟨gb + 1, 0, none⟩) (by show h ≤ gb + 1; omega) (.int .i64 2)))
              have YPP := whole_set YP 0 (.int .i64 2)
              simp at YPP
              obtain ⟨q0, q1, q2, YQ⟩ : ∃ q0 q1 q2 : Int, (x1.setCell ⟨gb + 1, 0, none⟩ (.int .i64 2)).heap[gb + 1]? = some (.cells #[.int .i64 q0, .int .i64 q1, .int .i64 q2] 65 (0, 0)) := ⟨_, _, _, YPP⟩
              clear YPP
              generalize (x1.setCell ⟨gb + 1, 0, none⟩ (.int .i64 2)) = z at *
              obtain ⟨n', xs', hn', hown⟩ := E5.pt
              have md := E5.md
              have hhx := md.lt
              have hyx := whole_lt YQ
              have y0 := whole_cell YQ 0; have y1 := whole_cell YQ 1; have y2 := whole_cell YQ 2
              simp at y0 y1 y2
              have m11 := md.c 11; have z11 := md.z 11
              simp [mvC] at m11
              have ah : (Value.slice m.pa m.pn m.pc).ownBlock ≠ some h := by intro q; have := (hown.lt h q).1; omega
              have fz : ∀ o, (z.alloc o).drew.frozen? ⟨h, 11, none⟩ = false := fun o => whole_frozen (w := (z.alloc o).drew) (whole_alloc md o) 11
              go_region_law
                ((refine step_append_lies _ (by rfl) _ _ _ (by rfl) (h + 1) 65 i0 _ 3 24 Tryd.underlying33 hI0 hz0 hz1 hz2 rfl (by omega) (.slice m.pa m.pn m.pc) n' xs' (by rfl) ((hown.alloc _).drew)
                    ⟨z.heap.size, 0, none⟩ 1 1 [.int .i64 q0, .int .i64 q1, .int .i64 q2] (by rfl) (by rfl) (World.news_of_block (cs := #[.int .i64 q0, .int .i64 q1, .int .i64 q2]) (t := 65) (fr := (0, 0)) (heap_alloc_new z _)) (by simp [Value.oneCell'])
                    (by omega) (by unfold maxLen; omega) (by omega) (by simp; omega) (z.heap.size + 1) (by simp) ?_; intro g3 cap3 w33 hown3 hgrow3 hat3 hlt3; have m3 : Md h m w33 := (hgrow3.block h (by simp; omega) (Ne.symm ah)).trans (whole_alloc md _); have m3c := m3.c 11; have m3z := m3.z 11; simp [mvC] at m3c))
              all_goals
                obtain ⟨p1, p2, p3, p4, p5⟩ := parts_grow (m := m) (x := (z.alloc (.cells #[.int .i64 q0, .int .i64 q1, .int .i64 q2] 65)).drew) (whole_alloc md _) ((hown.alloc _).drew) hgrow3 hown3
                replace p5 := ((Below.refl h z).alloc (by omega) _).drew.trans p5
                clear hgrow3 hat3 m3 m3z p1 p2 fz
                go_wp2_with fail
                go_ret
                exact ⟨opW 1 ++ y.job.name, _, _, _, ret_str (by rw [← bs_append]; rfl), HT.out, E5.next p5 p3 ⟨n' + 1, _, by omega, p4⟩, U5.trans (Upon.below p5)⟩
            obtain rfl : k3 = 2 := by omega
            · skip
              have HT : Hid (AtomT (opW 2 ++ y.job.name)) := atomT_ref hgk.1 2
              go_wp2_with fail
              have E5 := E4.setCell (p := ⟨gb + 1, 0, none⟩) (by show h < gb + 1; omega) hro (.int .i64 3)
              have U5 := U4.trans (Upon.below ((Below.refl h x1).setCell (p := ⟨gb + 1, 0, none⟩) (by show h ≤ gb + 1; omega) (.int .i64 3)))
              have YPP := whole_set YP 0 (.int .i64 3)
              simp at YPP
              obtain ⟨q0, q1, q2, YQ⟩ : ∃ q0 q1 q2 : Int, (x1.setCell ⟨gb + 1, 0, none⟩ (.int .i64 3)).heap[gb + 1]? = some (.cells #[.int .i64 q0, .int .i64 q1, .int .i64 q2] 65 (0, 0)) := ⟨_, _, _, YPP⟩
              clear YPP
              generalize (x1.setCell ⟨gb + 1, 0, none⟩ (.int .i64 3)) = z at *
              obtain ⟨n', xs', hn', hown⟩ := E5.pt
              have md := E5.md
              have hhx := md.lt
              have hyx := whole_lt YQ
              have y0 := whole_cell YQ 0; have y1 := whole_cell YQ 1; have y2 := whole_cell YQ 2
              simp at y0 y1 y2
              have m11 := md.c 11; have z11 := md.z 11
              simp [mvC] at m11
              have ah : (Value.slice m.pa m.pn m.pc).ownBlock ≠ some h := by intro q; have := (hown.lt h q).1; omega
              have fz : ∀ o, (z.alloc o).drew.frozen? ⟨h, 11, none⟩ = false := fun o => whole_frozen (w := (z.alloc o).drew) (whole_alloc md o) 11
              go_region_law
                ((refine step_append_lies _ (by rfl) _ _ _ (by rfl) (h + 1) 65 i0 _ 3 24 Tryd.underlying33 hI0 hz0 hz1 hz2 rfl (by omega) (.slice m.pa m.pn m.pc) n' xs' (by rfl) ((hown.alloc _).drew)
                    ⟨z.heap.size, 0, none⟩ 1 1 [.int .i64 q0, .int .i64 q1, .int .i64 q2] (by rfl) (by rfl) (World.news_of_block (cs := #[.int .i64 q0, .int .i64 q1, .int .i64 q2]) (t := 65) (fr := (0, 0)) (heap_alloc_new z _)) (by simp [Value.oneCell'])
                    (by omega) (by unfold maxLen; omega) (by omega) (by simp; omega) (z.heap.size + 1) (by simp) ?_; intro g3 cap3 w33 hown3 hgrow3 hat3 hlt3; have m3 : Md h m w33 := (hgrow3.block h (by simp; omega) (Ne.symm ah)).trans (whole_alloc md _); have m3c := m3.c 11; have m3z := m3.z 11; simp [mvC] at m3c))
              all_goals
                obtain ⟨p1, p2, p3, p4, p5⟩ := parts_grow (m := m) (x := (z.alloc (.cells #[.int .i64 q0, .int .i64 q1, .int .i64 q2] 65)).drew) (whole_alloc md _) ((hown.alloc _).drew) hgrow3 hown3
                replace p5 := ((Below.refl h z).alloc (by omega) _).drew.trans p5
                clear hgrow3 hat3 m3 m3z p1 p2 fz
                go_wp2_with fail
                go_ret
                exact ⟨opW 2 ++ y.job.name, _, _, _, ret_str (by rw [← bs_append]; rfl), HT.out, E5.next p5 p3 ⟨n' + 1, _, by omega, p4⟩, U5.trans (Upon.below p5)⟩
          | true =>
            rw [harr] at yg4
            by_cases hk0 : k3 = 0
            · subst hk0
              have HT : Hid (AtomT (opW 0 ++ y.job.name)) := atomT_ref hgk.1 0
              have HTN : Hid (∀ n, n ≤ 12 → AtomT (opW 0 ++ (y.job.name ++ ([91] ++ (dig2 n ++ [93]))))) := fun n hn => atomT_num hgk.1 0 hn
              go_wp2_with fail
              have E5 := E4.setCell (p := ⟨gb + 1, 0, none⟩) (by show h < gb + 1; omega) hro (.int .i64 1)
              have U5 := U4.trans (Upon.below ((Below.refl h x1).setCell (p := ⟨gb + 1, 0, none⟩) (by show h ≤ gb + 1; omega) (.int .i64 1)))
              have YPP := whole_set YP 0 (.int .i64 1)
              have YGG := whole_set_ne YG ⟨gb + 1, 0, none⟩ (by show gb + 1 ≠ gb; omega) (.int .i64 1)
              simp at YPP
              clear E4 U4 YP YG yg1 yg4 yg5 yg8 yg9 yp0 yp1 yp2 zp0
              generalize x1.setCell ⟨gb + 1, 0, none⟩ (.int .i64 1) = x2 at *
              refine (next_any f 2 _ E5.fd (by omega) (by omega)).mono ?_
              rintro e x3 ⟨k2, hk2', rfl, hf2, ha2⟩
              replace U5 := U5.trans (Upon.aside ha2 (Nat.le_of_lt E5.hlt))
              replace E5 := E5.feed ha2 hf2
              replace YPP := (ha2.block (gb + 1) (whole_lt YPP) (by omega)).trans YPP
              replace YGG := (ha2.block gb (whole_lt YGG) (by omega)).trans YGG
              clear ha2 hf2
              by_cases hkk : k2 = 1
              · subst hkk
                have yg5 := whole_cell YGG 5; have yg8 := whole_cell YGG 8; have yg9 := whole_cell YGG 9
                simp at yg5 yg8 yg9
                go_wp2_with fail
                refine (next_any f y.count _ E5.fd (by have := hgk.2.1; omega) (by have := hgk.2.2.1; omega)).mono ?_
                rintro e x4 ⟨k5, hk5, rfl, hf3, ha3⟩
                replace U5 := U5.trans (Upon.aside ha3 (Nat.le_of_lt E5.hlt))
                replace E5 := E5.feed ha3 hf3
                replace YPP := (ha3.block (gb + 1) (whole_lt YPP) (by omega)).trans YPP
                replace YGG := (ha3.block gb (whole_lt YGG) (by omega)).trans YGG
                clear ha3 hf3 yg5 yg8 yg9
                have yg5 := whole_cell YGG 5; have yg8 := whole_cell YGG 8
                have yp1 := whole_cell YPP 1; have yp2 := whole_cell YPP 2; have zp1 := whole_frozen YPP 1; have zp2 := whole_frozen YPP 2
                simp at yg5 yg8 yp1 yp2
                obtain ⟨g1, g2, g3', g4, g5, g6⟩ := hgk
                have ga := g4 harr
                have gb2 := (g1.arr harr).2.2
                have hlo : y.job.lo + k5 ≤ 12 := by omega
                have hlo1 : (y.job.lo : Int) ≤ 12 := by omega
                have hk51 : (k5 : Int) ≤ 6 := by omega
                have hfi : (y.first : Int) ≤ 1000 := by omega
                go_wp2_with fail
                have E6 := (E5.setCell (p := ⟨gb + 1, 1, none⟩) (by show h < gb + 1; omega) hro (.int .i64 ((y.first : Int) + (k5 : Int)))).setCell (p := ⟨gb + 1, 2, none⟩) (by show h < gb + 1; omega) hro (.int .i64 1)
                have U6 := U5.trans (Upon.below (((Below.refl h x4).setCell (p := ⟨gb + 1, 1, none⟩) (by show h ≤ gb + 1; omega) (.int .i64 ((y.first : Int) + (k5 : Int)))).setCell (p := ⟨gb + 1, 2, none⟩) (by show h ≤ gb + 1; omega) (.int .i64 1)))
                have YP6 := whole_set (whole_set YPP 1 (.int .i64 ((y.first : Int) + (k5 : Int)))) 2 (.int .i64 1)
                simp at YP6
                clear E5 U5 YPP
                have E5 := E6; have U5 := U6; have YPP := YP6
                clear E6 U6 YP6
                rw [show (y.job.lo : Int) + (k5 : Int) = ((y.job.lo + k5 : Nat) : Int) from by omega]
                refine (itoa_any (y.job.lo + k5) hlo _).mono ?_
                rintro e x5 ⟨rfl, hx5⟩
                subst hx5
                have hsd := bs_size (dig2 (y.job.lo + k5))
                have hsd2 := dig2_len (y.job.lo + k5)
                go_wp2_with fail
                obtain ⟨q0, q1, q2, YQ⟩ : ∃ q0 q1 q2 : Int, ((x4.setCell ⟨gb + 1, 1, none⟩ (.int .i64 ((y.first : Int) + (k5 : Int)))).setCell ⟨gb + 1, 2, none⟩ (.int .i64 1)).heap[gb + 1]? = some (.cells #[.int .i64 q0, .int .i64 q1, .int .i64 q2] 65 (0, 0)) := ⟨_, _, _, YPP⟩
                clear YPP
                generalize ((x4.setCell ⟨gb + 1, 1, none⟩ (.int .i64 ((y.first : Int) + (k5 : Int)))).setCell ⟨gb + 1, 2, none⟩ (.int .i64 1)) = z at *
                obtain ⟨n', xs', hn', hown⟩ := E5.pt
                have md := E5.md
                have hhx := md.lt
                have hyx := whole_lt YQ
                have y0 := whole_cell YQ 0; have y1 := whole_cell YQ 1; have y2 := whole_cell YQ 2
                simp at y0 y1 y2
                have m11 := md.c 11; have z11 := md.z 11
                simp [mvC] at m11
                have ah : (Value.slice m.pa m.pn m.pc).ownBlock ≠ some h := by intro q; have := (hown.lt h q).1; omega
                have fz : ∀ o, (z.alloc o).drew.frozen? ⟨h, 11, none⟩ = false := fun o => whole_frozen (w := (z.alloc o).drew) (whole_alloc md o) 11
                go_region_law
                  ((refine step_append_lies _ (by rfl) _ _ _ (by rfl) (h + 1) 65 i0 _ 3 24 Tryd.underlying33 hI0 hz0 hz1 hz2 rfl (by omega) (.slice m.pa m.pn m.pc) n' xs' (by rfl) ((hown.alloc _).drew)
                      ⟨z.heap.size, 0, none⟩ 1 1 [.int .i64 q0, .int .i64 q1, .int .i64 q2] (by rfl) (by rfl) (World.news_of_block (cs := #[.int .i64 q0, .int .i64 q1, .int .i64 q2]) (t := 65) (fr := (0, 0)) (heap_alloc_new z _)) (by simp [Value.oneCell'])
                      (by omega) (by unfold maxLen; omega) (by omega) (by simp; omega) (z.heap.size + 1) (by simp) ?_; intro g3 cap3 w33 hown3 hgrow3 hat3 hlt3; have m3 : Md h m w33 := (hgrow3.block h (by simp; omega) (Ne.symm ah)).trans (whole_alloc md _); have m3c := m3.c 11; have m3z := m3.z 11; simp [mvC] at m3c))
                all_goals
                  obtain ⟨p1, p2, p3, p4, p5⟩ := parts_grow (m := m) (x := (z.alloc (.cells #[.int .i64 q0, .int .i64 q1, .int .i64 q2] 65)).drew) (whole_alloc md _) ((hown.alloc _).drew) hgrow3 hown3
                  replace p5 := ((Below.refl h z).alloc (by omega) _).drew.trans p5
                  clear hgrow3 hat3 m3 m3z p1 p2 fz
                  go_wp2_with fail
                  go_ret
                  exact ⟨opW 0 ++ (y.job.name ++ ([91] ++ (dig2 (y.job.lo + k5) ++ [93]))), _, _, _, ret_str (by rw [← bs_append, ← bs_append, ← bs_append, ← bs_append, ← ByteArray.append_assoc, ← ByteArray.append_assoc, ← ByteArray.append_assoc]; rfl), HTN.out _ hlo, E5.next p5 p3 ⟨n' + 1, _, by omega, p4⟩, U5.trans (Upon.below p5)⟩
              · have hkk' : ((k2 : Int) == 1) = false := beqF' (by omega)
                go_wp2_with fail
                obtain ⟨q0, q1, q2, YQ⟩ : ∃ q0 q1 q2 : Int, x3.heap[gb + 1]? = some (.cells #[.int .i64 q0, .int .i64 q1, .int .i64 q2] 65 (0, 0)) := ⟨_, _, _, YPP⟩
                clear YPP
                generalize x3 = z at *
                obtain ⟨n', xs', hn', hown⟩ := E5.pt
                have md := E5.md
                have hhx := md.lt
                have hyx := whole_lt YQ
                have y0 := whole_cell YQ 0; have y1 := whole_cell YQ 1; have y2 := whole_cell YQ 2
                simp at y0 y1 y2
                have m11 := md.c 11; have z11 := md.z 11
                simp [mvC] at m11
                have ah : (Value.slice m.pa m.pn m.pc).ownBlock ≠ some h := by intro q; have := (hown.lt h q).1; omega
                have fz : ∀ o, (z.alloc o).drew.frozen? ⟨h, 11, none⟩ = false := fun o => whole_frozen (w := (z.alloc o).drew) (whole_alloc md o) 11
                go_region_law
                  ((refine step_append_lies _ (by rfl) _ _ _ (by rfl) (h + 1) 65 i0 _ 3 24 Tryd.underlying33 hI0 hz0 hz1 hz2 rfl (by omega) (.slice m.pa m.pn m.pc) n' xs' (by rfl) ((hown.alloc _).drew)
                      ⟨z.heap.size, 0, none⟩ 1 1 [.int .i64 q0, .int .i64 q1, .int .i64 q2] (by rfl) (by rfl) (World.news_of_block (cs := #[.int .i64 q0, .int .i64 q1, .int .i64 q2]) (t := 65) (fr := (0, 0)) (heap_alloc_new z _)) (by simp [Value.oneCell'])
                      (by omega) (by unfold maxLen; omega) (by omega) (by simp; omega) (z.heap.size + 1) (by simp) ?_; intro g3 cap3 w33 hown3 hgrow3 hat3 hlt3; have m3 : Md h m w33 := (hgrow3.block h (by simp; omega) (Ne.symm ah)).trans (whole_alloc md _); have m3c := m3.c 11; have m3z := m3.z 11; simp [mvC] at m3c))
                all_goals
                  obtain ⟨p1, p2, p3, p4, p5⟩ := parts_grow (m := m) (x := (z.alloc (.cells #[.int .i64 q0, .int .i64 q1, .int .i64 q2] 65)).drew) (whole_alloc md _) ((hown.alloc _).drew) hgrow3 hown3
                  replace p5 := ((Below.refl h z).alloc (by omega) _).drew.trans p5
                  clear hgrow3 hat3 m3 m3z p1 p2 fz
                  go_wp2_with fail
                  go_ret
                  exact ⟨opW 0 ++ y.job.name, _, _, _, ret_str (by rw [← bs_append]; rfl), HT.out, E5.next p5 p3 ⟨n' + 1, _, by omega, p4⟩, U5.trans (Upon.below p5)⟩
            by_cases hk1 : k3 = 1
            · subst hk1
              have HT : Hid (AtomT (opW 1 ++ y.job.name)) := atomT_ref hgk.1 1
              have HTN : Hid (∀ n, n ≤ 12 → AtomT (opW 1 ++ (y.job.name ++ ([91] ++ (dig2 n ++ [93]))))) := fun n hn => atomT_num hgk.1 1 hn
              go_wp2_with fail
              have E5 := E4.setCell (p := ⟨gb + 1, 0, none⟩) (by show h < gb + 1; omega) hro (.int .i64 2)
              have U5 := U4.trans (Upon.below ((Below.refl h x1).setCell (p := ⟨gb + 1, 0, none⟩) (by show h ≤ gb + 1; omega) (.int .i64 2)))
              have YPP := whole_set YP 0 (.int .i64 2)
              have YGG := whole_set_ne YG ⟨gb + 1, 0, none⟩ (by show gb + 1 ≠ gb; omega) (.int .i64 2)
              simp at YPP
              clear E4 U4 YP YG yg1 yg4 yg5 yg8 yg9 yp0 yp1 yp2 zp0
              generalize x1.setCell ⟨gb + 1, 0, none⟩ (.int .i64 2) = x2 at *
              refine (next_any f 2 _ E5.fd (by omega) (by omega)).mono ?_
              rintro e x3 ⟨k2, hk2', rfl, hf2, ha2⟩
              replace U5 := U5.trans (Upon.aside ha2 (Nat.le_of_lt E5.hlt))
              replace E5 := E5.feed ha2 hf2
              replace YPP := (ha2.block (gb + 1) (whole_lt YPP) (by omega)).trans YPP
              replace YGG := (ha2.block gb (whole_lt YGG) (by omega)).trans YGG
              clear ha2 hf2
              by_cases hkk : k2 = 1
              · subst hkk
                have yg5 := whole_cell YGG 5; have yg8 := whole_cell YGG 8; have yg9 := whole_cell YGG 9
                simp at yg5 yg8 yg9
                go_wp2_with fail
                refine (next_any f y.count _ E5.fd (by have := hgk.2.1; omega) (by have := hgk.2.2.1; omega)).mono ?_
                rintro e x4 ⟨k5, hk5, rfl, hf3, ha3⟩
                replace U5 := U5.trans (Upon.aside ha3 (Nat.le_of_lt E5.hlt))
                replace E5 := E5.feed ha3 hf3
                replace YPP := (ha3.block (gb + 1) (whole_lt YPP) (by omega)).trans YPP
                replace YGG := (ha3.block gb (whole_lt YGG) (by omega)).trans YGG
                clear ha3 hf3 yg5 yg8 yg9
                have yg5 := whole_cell YGG 5; have yg8 := whole_cell YGG 8
                have yp1 := whole_cell YPP 1; have yp2 := whole_cell YPP 2; have zp1 := whole_frozen YPP 1; have zp2 := whole_frozen YPP 2
                simp at yg5 yg8 yp1 yp2
                obtain ⟨g1, g2, g3', g4, g5, g6⟩ := hgk
                have ga := g4 harr
                have gb2 := (g1.arr harr).2.2
                have hlo : y.job.lo + k5 ≤ 12 := by omega
                have hlo1 : (y.job.lo : Int) ≤ 12 := by omega
                have hk51 : (k5 : Int) ≤ 6 := by omega
                have hfi : (y.first : Int) ≤ 1000 := by omega
                go_wp2_with fail
                have E6 := (E5.setCell (p := ⟨gb + 1, 1, none⟩) (by show h < gb + 1; omega) hro (.int .i64 ((y.first : Int) + (k5 : Int)))).setCell (p := ⟨gb + 1, 2, none⟩) (by show h < gb + 1; omega) hro (.int .i64 1)
                have U6 := U5.trans (Upon.below (((Below.refl h x4).setCell (p := ⟨gb + 1, 1, none⟩) (by show h ≤ gb + 1; omega) (.int .i64 ((y.first : Int) + (k5 : Int)))).setCell (p := ⟨gb + 1, 2, none⟩) (by show h ≤ gb + 1; omega) (.int .i64 1)))
                have YP6 := whole_set (whole_set YPP 1 (.int .i64 ((y.first : Int) + (k5 : Int)))) 2 (.int .i64 1)
                simp at YP6
                clear E5 U5 YPP
                have E5 := E6; have U5 := U6; have YPP := YP6
                clear E6 U6 YP6
                rw [show (y.job.lo : Int) + (k5 : Int) = ((y.job.lo + k5 : Nat) : Int) from by omega]
                refine (itoa_any (y.job.lo + k5) hlo _).mono ?_
                rintro e x5 ⟨rfl, hx5⟩
                subst hx5
                have hsd := bs_size (dig2 (y.job.lo + k5))
                have hsd2 := dig2_len (y.job.lo + k5)
                go_wp2_with fail
                obtain ⟨q0, q1, q2, YQ⟩ : ∃ q0 q1 q2 : Int, ((x4.setCell ⟨gb + 1, 1, none⟩ (.int .i64 ((y.first : Int) + (k5 : Int)))).setCell ⟨gb + 1, 2, none⟩ (.int .i64 1)).heap[gb + 1]? = some (.cells #[.int .i64 q0, .int .i64 q1, .int .i64 q2] 65 (0, 0)) := ⟨_, _, _, YPP⟩
                clear YPP
                generalize ((x4.setCell ⟨gb + 1, 1, none⟩ (.int .i64 ((y.first : Int) + (k5 : Int)))).setCell ⟨gb + 1, 2, none⟩ (.int .i64 1)) = z at *
                obtain ⟨n', xs', hn', hown⟩ := E5.pt
                have md := E5.md
                have hhx := md.lt
                have hyx := whole_lt YQ
                have y0 := whole_cell YQ 0; have y1 := whole_cell YQ 1; have y2 := whole_cell YQ 2
                simp at y0 y1 y2
                have m11 := md.c 11; have z11 := md.z 11
                simp [mvC] at m11
                have ah : (Value.slice m.pa m.pn m.pc).ownBlock ≠ some h := by intro q; have := (hown.lt h q).1; omega
                have fz : ∀ o, (z.alloc o).drew.frozen? ⟨h, 11, none⟩ = false := fun o => whole_frozen (w := (z.alloc o).drew) (whole_alloc md o) 11
                go_region_law
                  ((refine step_append_lies _ (by rfl) _ _ _ (by rfl) (h + 1) 65 i0 _ 3 24 Tryd.underlying33 hI0 hz0 hz1 hz2 rfl (by omega) (.slice m.pa m.pn m.pc) n' xs' (by rfl) ((hown.alloc _).drew)
                      ⟨z.heap.size, 0, none⟩ 1 1 [.int .i64 q0, .int .i64 q1, .int .i64 q2] (by rfl) (by rfl) (World.news_of_block (cs := #[.int .i64 q0, .int .i64 q1, .int .i64 q2]) (t := 65) (fr := (0, 0)) (heap_alloc_new z _)) (by simp [Value.oneCell'])
                      (by omega) (by unfold maxLen; omega) (by omega) (by simp; omega) (z.heap.size + 1) (by simp) ?_; intro g3 cap3 w33 hown3 hgrow3 hat3 hlt3; have m3 : Md h m w33 := (hgrow3.block h (by simp; omega) (Ne.symm ah)).trans (whole_alloc md _); have m3c := m3.c 11; have m3z := m3.z 11; simp [mvC] at m3c))
                all_goals
                  obtain ⟨p1, p2, p3, p4, p5⟩ := parts_grow (m := m) (x := (z.alloc (.cells #[.int .i64 q0, .int .i64 q1, .int .i64 q2] 65)).drew) (whole_alloc md _) ((hown.alloc _).drew) hgrow3 hown3
                  replace p5 := ((Below.refl h z).alloc (by omega) _).drew.trans p5
                  clear hgrow3 hat3 m3 m3z p1 p2 fz
                  go_wp2_with fail
                  go_ret
                  exact ⟨opW 1 ++ (y.job.name ++ ([91] ++ (dig2 (y.job.lo + k5) ++ [93]))), _, _, _, ret_str (by rw [← bs_append, ← bs_append, ← bs_append, ← bs_append, ← ByteArray.append_assoc, ← ByteArray.append_assoc, ← ByteArray.append_assoc]; rfl), HTN.out _ hlo, E5.next p5 p3 ⟨n' + 1, _, by omega, p4⟩, U5.trans (Upon.below p5)⟩
              · have hkk' : ((k2 : Int) == 1) = false := beqF' (by omega)
                go_wp2_with fail
                obtain ⟨q0, q1, q2, YQ⟩ : ∃ q0 q1 q2 : Int, x3.heap[gb + 1]? = some (.cells #[.int .i64 q0, .int .i64 q1, .int .i64 q2] 65 (0, 0)) := ⟨_, _, _, YPP⟩
                clear YPP
                generalize x3 = z at *
                obtain ⟨n', xs', hn', hown⟩ := E5.pt
                have md := E5.md
                have hhx := md.lt
                have hyx := whole_lt YQ
                have y0 := whole_cell YQ 0; have y1 := whole_cell YQ 1; have y2 := whole_cell YQ 2
                simp at y0 y1 y2
                have m11 := md.c 11; have z11 := md.z 11
                simp [mvC] at m11
                have ah : (Value.slice m.pa m.pn m.pc).ownBlock ≠ some h := by intro q; have := (hown.lt h q).1; omega
                have fz : ∀ o, (z.alloc o).drew.frozen? ⟨h, 11, none⟩ = false := fun o => whole_frozen (w := (z.alloc o).drew) (whole_alloc md o) 11
                go_region_law
                  ((refine step_append_lies _ (by rfl) _ _ _ (by rfl) (h + 1) 65 i0 _ 3 24 Tryd.underlying33 hI0 hz0 hz1 hz2 rfl (by omega) (.slice m.pa m.pn m.pc) n' xs' (by rfl) ((hown.alloc _).drew)
                      ⟨z.heap.size, 0, none⟩ 1 1 [.int .i64 q0, .int .i64 q1, .int .i64 q2] (by rfl) (by rfl) (World.news_of_block (cs := #[.int .i64 q0, .int .i64 q1, .int .i64 q2]) (t := 65) (fr := (0, 0)) (heap_alloc_new z _)) (by simp [Value.oneCell'])
                      (by omega) (by unfold maxLen; omega) (by omega) (by simp; omega) (z.heap.size + 1) (by simp) ?_; intro g3 cap3 w33 hown3 hgrow3 hat3 hlt3; have m3 : Md h m w33 := (hgrow3.block h (by simp; omega) (Ne.symm ah)).trans (whole_alloc md _); have m3c := m3.c 11; have m3z := m3.z 11; simp [mvC] at m3c))
                all_goals
                  obtain ⟨p1, p2, p3, p4, p5⟩ := parts_grow (m := m) (x := (z.alloc (.cells #[.int .i64 q0, .int .i64 q1, .int .i64 q2] 65)).drew) (whole_alloc md _) ((hown.alloc _).drew) hgrow3 hown3
                  replace p5 := ((Below.refl h z).alloc (by omega) _).drew.trans p5
                  clear hgrow3 hat3 m3 m3z p1 p2 fz
                  go_wp2_with fail
                  go_ret
                  exact ⟨opW 1 ++ y.job.name, _, _, _, ret_str (by rw [← bs_append]; rfl), HT.out, E5.next p5 p3 ⟨n' + 1, _, by omega, p4⟩, U5.trans (Upon.below p5)⟩
            obtain rfl : k3 = 2 := by omega
            · skip
              have HT : Hid (AtomT (opW 2 ++ y.job.name)) := atomT_ref hgk.1 2
              have HTN : Hid (∀ n, n ≤ 12 → AtomT (opW 2 ++ (y.job.name ++ ([91] ++ (dig2 n ++ [93]))))) := fun n hn => atomT_num hgk.1 2 hn
              go_wp2_with fail
              have E5 := E4.setCell (p := ⟨gb + 1, 0, none⟩) (by show h < gb + 1; omega) hro (.int .i64 3)
              have U5 := U4.trans (Upon.below ((Below.refl h x1).setCell (p := ⟨gb + 1, 0, none⟩) (by show h ≤ gb + 1; omega) (.int .i64 3)))
              have YPP := whole_set YP 0 (.int .i64 3)
              have YGG := whole_set_ne YG ⟨gb + 1, 0, none⟩ (by show gb + 1 ≠ gb; omega) (.int .i64 3)
              simp at YPP
              clear E4 U4 YP YG yg1 yg4 yg5 yg8 yg9 yp0 yp1 yp2 zp0
              generalize x1.setCell ⟨gb + 1, 0, none⟩ (.int .i64 3) = x2 at *
              refine (next_any f 2 _ E5.fd (by omega) (by omega)).mono ?_
              rintro e x3 ⟨k2, hk2', rfl, hf2, ha2⟩
              replace U5 := U5.trans (Upon.aside ha2 (Nat.le_of_lt E5.hlt))
              replace E5 := E5.feed ha2 hf2
              replace YPP := (ha2.block (gb + 1) (whole_lt YPP) (by omega)).trans YPP
              replace YGG := (ha2.block gb (whole_lt YGG) (by omega)).trans YGG
              clear ha2 hf2
              by_cases hkk : k2 = 1
              · subst hkk
                have yg5 := whole_cell YGG 5; have yg8 := whole_cell YGG 8; have yg9 := whole_cell YGG 9
                simp at yg5 yg8 yg9
                go_wp2_with fail
                refine (next_any f y.count _ E5.fd (by have := hgk.2.1; omega) (by have := hgk.2.2.1; omega)).mono ?_
                rintro e x4 ⟨k5, hk5, rfl, hf3, ha3⟩
                replace U5 := U5.trans (Upon.aside ha3 (Nat.le_of_lt E5.hlt))
                replace E5 := E5.feed ha3 hf3
                replace YPP := (ha3.block (gb + 1) (whole_lt YPP) (by omega)).trans YPP
                replace YGG := (ha3.block gb (whole_lt YGG) (by omega)).trans YGG
                clear ha3 hf3 yg5 yg8 yg9
                have yg5 := whole_cell YGG 5; have yg8 := whole_cell YGG 8
                have yp1 := whole_cell YPP 1; have yp2 := whole_cell YPP 2; have zp1 := whole_frozen YPP 1; have zp2 := whole_frozen YPP 2
                simp at yg5 yg8 yp1 yp2
                obtain ⟨g1, g2, g3', g4, g5, g6⟩ := hgk
                have ga := g4 harr
                have gb2 := (g1.arr harr).2.2
                have hlo : y.job.lo + k5 ≤ 12 := by omega
                have hlo1 : (y.job.lo : Int) ≤ 12 := by omega
                have hk51 : (k5 : Int) ≤ 6 := by omega
                have hfi : (y.first : Int) ≤ 1000 := by omega
                go_wp2_with fail
                have E6 := (E5.setCell (p := ⟨gb + 1, 1, none⟩) (by show h < gb + 1; omega) hro (.int .i64 ((y.first : Int) + (k5 : Int)))).setCell (p := ⟨gb + 1, 2, none⟩) (by show h < gb + 1; omega) hro (.int .i64 1)
                have U6 := U5.trans (Upon.below (((Below.refl h x4).setCell (p := ⟨gb + 1, 1, none⟩) (by show h ≤ gb + 1; omega) (.int .i64 ((y.first : Int) + (k5 : Int)))).setCell (p := ⟨gb + 1, 2, none⟩) (by show h ≤ gb + 1; omega) (.int .i64 1)))
                have YP6 := whole_set (whole_set YPP 1 (.int .i64 ((y.first : Int) + (k5 : Int)))) 2 (.int .i64 1)
                simp at YP6
                clear E5 U5 YPP
                have E5 := E6; have U5 := U6; have YPP := YP6
                clear E6 U6 YP6
                rw [show (y.job.lo : Int) + (k5 : Int) = ((y.job.lo + k5 : Nat) : Int) from by omega]
                refine (itoa_any (y.job.lo + k5) hlo _).mono ?_
                rintro e x5 ⟨rfl, hx5⟩
                subst hx5
                have hsd := bs_size (dig2 (y.job.lo + k5))
                have hsd2 := dig2_len (y.job.lo + k5)
                go_wp2_with fail
                obtain ⟨q0, q1, q2, YQ⟩ : ∃ q0 q1 q2 : Int, ((x4.setCell ⟨gb + 1, 1, none⟩ (.int .i64 ((y.first : Int) + (k5 : Int)))).setCell ⟨gb + 1, 2, none⟩ (.int .i64 1)).heap[gb + 1]? = some (.cells #[.int .i64 q0, .int .i64 q1, .int .i64 q2] 65 (0, 0)) := ⟨_, _, _, YPP⟩
                clear YPP
                generalize ((x4.setCell ⟨gb + 1, 1, none⟩ (.int .i64 ((y.first : Int) + (k5 : Int)))).setCell ⟨gb + 1, 2, none⟩ (.int .i64 1)) = z at *
                obtain ⟨n', xs', hn', hown⟩ := E5.pt
                have md := E5.md
                have hhx := md.lt
                have hyx := whole_lt YQ
                have y0 := whole_cell YQ 0; have y1 := whole_cell YQ 1; have y2 := whole_cell YQ 2
                simp at y0 y1 y2
                have m11 := md.c 11; have z11 := md.z 11
                simp [mvC] at m11
                have ah : (Value.slice m.pa m.pn m.pc).ownBlock ≠ some h := by intro q; have := (hown.lt h q).1; omega
                have fz : ∀ o, (z.alloc o).drew.frozen? ⟨h, 11, none⟩ = false := fun o => whole_frozen (w := (z.alloc o).drew) (whole_alloc md o) 11
                go_region_law
                  ((refine step_append_lies _ (by rfl) _ _ _ (by rfl) (h + 1) 65 i0 _ 3 24 Tryd.underlying33 hI0 hz0 hz1 hz2 rfl (by omega) (.slice m.pa m.pn m.pc) n' xs' (by rfl) ((hown.alloc _).drew)
                      ⟨z.heap.size, 0, none⟩ 1 1 [.int .i64 q0, .int .i64 q1, .int .i64 q2] (by rfl) (by rfl) (World.news_of_block (cs := #[.int .i64 q0, .int .i64 q1, .int .i64 q2]) (t := 65) (fr := (0, 0)) (heap_alloc_new z _)) (by simp [Value.oneCell'])
                      (by omega) (by unfold maxLen; omega) (by omega) (by simp; omega) (z.heap.size + 1) (by simp) ?_; intro g3 cap3 w33 hown3 hgrow3 hat3 hlt3; have m3 : Md h m w33 := (hgrow3.block h (by simp; omega) (Ne.symm ah)).trans (whole_alloc md _); have m3c := m3.c 11; have m3z := m3.z 11; simp [mvC] at m3c))
                all_goals
                  obtain ⟨p1, p2, p3, p4, p5⟩ := parts_grow (m := m) (x := (z.alloc (.cells #[.int .i64 q0, .int .i64 q1, .int .i64 q2] 65)).drew) (whole_alloc md _) ((hown.alloc _).drew) hgrow3 hown3
                  replace p5 := ((Below.refl h z).alloc (by omega) _).drew.trans p5
                  clear hgrow3 hat3 m3 m3z p1 p2 fz
                  go_wp2_with fail
                  go_ret
                  exact ⟨opW 2 ++ (y.job.name ++ ([91] ++ (dig2 (y.job.lo + k5) ++ [93]))), _, _, _, ret_str (by rw [← bs_append, ← bs_append, ← bs_append, ← bs_append, ← ByteArray.append_assoc, ← ByteArray.append_assoc, ← ByteArray.append_assoc]; rfl), HTN.out _ hlo, E5.next p5 p3 ⟨n' + 1, _, by omega, p4⟩, U5.trans (Upon.below p5)⟩
              · have hkk' : ((k2 : Int) == 1) = false := beqF' (by omega)
                go_wp2_with fail
                obtain ⟨q0, q1, q2, YQ⟩ : ∃ q0 q1 q2 : Int, x3.heap[gb + 1]? = some (.cells #[.int .i64 q0, .int .i64 q1, .int .i64 q2] 65 (0, 0)) := ⟨_, _, _, YPP⟩
                clear YPP
                generalize x3 = z at *
                obtain ⟨n', xs', hn', hown⟩ := E5.pt
                have md := E5.md
                have hhx := md.lt
                have hyx := whole_lt YQ
                have y0 := whole_cell YQ 0; have y1 := whole_cell YQ 1; have y2 := whole_cell YQ 2
                simp at y0 y1 y2
                have m11 := md.c 11; have z11 := md.z 11
                simp [mvC] at m11
                have ah : (Value.slice m.pa m.pn m.pc).ownBlock ≠ some h := by intro q; have := (hown.lt h q).1; omega
                have fz : ∀ o, (z.alloc o).drew.frozen? ⟨h, 11, none⟩ = false := fun o => whole_frozen (w := (z.alloc o).drew) (whole_alloc md o) 11
                go_region_law
                  ((refine step_append_lies _ (by rfl) _ _ _ (by rfl) (h + 1) 65 i0 _ 3 24 Tryd.underlying33 hI0 hz0 hz1 hz2 rfl (by omega) (.slice m.pa m.pn m.pc) n' xs' (by rfl) ((hown.alloc _).drew)
                      ⟨z.heap.size, 0, none⟩ 1 1 [.int .i64 q0, .int .i64 q1, .int .i64 q2] (by rfl) (by rfl) (World.news_of_block (cs := #[.int .i64 q0, .int .i64 q1, .int .i64 q2]) (t := 65) (fr := (0, 0)) (heap_alloc_new z _)) (by simp [Value.oneCell'])
                      (by omega) (by unfold maxLen; omega) (by omega) (by simp; omega) (z.heap.size + 1) (by simp) ?_; intro g3 cap3 w33 hown3 hgrow3 hat3 hlt3; have m3 : Md h m w33 := (hgrow3.block h (by simp; omega) (Ne.symm ah)).trans (whole_alloc md _); have m3c := m3.c 11; have m3z := m3.z 11; simp [mvC] at m3c))
                all_goals
                  obtain ⟨p1, p2, p3, p4, p5⟩ := parts_grow (m := m) (x := (z.alloc (.cells #[.int .i64 q0, .int .i64 q1, .int .i64 q2] 65)).drew) (whole_alloc md _) ((hown.alloc _).drew) hgrow3 hown3
                  replace p5 := ((Below.refl h z).alloc (by omega) _).drew.trans p5
                  clear hgrow3 hat3 m3 m3z p1 p2 fz
                  go_wp2_with fail
                  go_ret
                  exact ⟨opW 2 ++ y.job.name, _, _, _, ret_str (by rw [← bs_append]; rfl), HT.out, E5.next p5 p3 ⟨n' + 1, _, by omega, p4⟩, U5.trans (Upon.below p5)⟩
    · have hbt' : decide ((y.batch : Int) < (m.batch : Int)) = false := by simp; omega
      go_wp2_with fail
      go_quiet (fail)
      replace E := E.drewN nq
      replace U3 := U3.trans (Upon.below (below_drewN (Below.refl h w3) nq))
      replace hb0 : (w3.drewN nq).cell? ⟨b, 0, none⟩ = _ := hb0
      replace l0 : (w3.drewN nq).cell? ⟨g, k * 12, none⟩ = _ := l0; replace l1 : (w3.drewN nq).cell? ⟨g, k * 12 + 1, none⟩ = _ := l1; replace l2 : (w3.drewN nq).cell? ⟨g, k * 12 + 2, none⟩ = _ := l2; replace l3 : (w3.drewN nq).cell? ⟨g, k * 12 + 3, none⟩ = _ := l3; replace l4 : (w3.drewN nq).cell? ⟨g, k * 12 + 4, none⟩ = _ := l4; replace l5 : (w3.drewN nq).cell? ⟨g, k * 12 + 5, none⟩ = _ := l5; replace l6 : (w3.drewN nq).cell? ⟨g, k * 12 + 6, none⟩ = _ := l6; replace l7 : (w3.drewN nq).cell? ⟨g, k * 12 + 7, none⟩ = _ := l7; replace l8 : (w3.drewN nq).cell? ⟨g, k * 12 + 8, none⟩ = _ := l8; replace l9 : (w3.drewN nq).cell? ⟨g, k * 12 + 9, none⟩ = _ := l9; replace l10 : (w3.drewN nq).cell? ⟨g, k * 12 + 10, none⟩ = _ := l10; replace l11 : (w3.drewN nq).cell? ⟨g, k * 12 + 11, none⟩ = _ := l11
      clear HC hm0 hgl
      generalize w3.drewN nq = wz at *
      go_wp2_with fail
      have YG : ((wz.alloc (.cells #[.int .i64 (y.batch : Int), .string (bs y.job.name), .int .i64 (y.job.nodes : Int), .int .i64 (y.job.time : Int), .bool y.job.arr, .int .i64 (y.job.lo : Int), .int .i64 (y.job.hi : Int), .string (bs y.job.after), .int .i64 (y.first : Int), .int .i64 (y.count : Int), .string (bs y.want), .slice y.pa y.pn y.pc] 35)).alloc (.cells #[.int .i64 0, .int .i64 (y.first : Int), .int .i64 (y.count : Int)] 65)).heap[wz.heap.size]? = some (.cells #[.int .i64 (y.batch : Int), .string (bs y.job.name), .int .i64 (y.job.nodes : Int), .int .i64 (y.job.time : Int), .bool y.job.arr, .int .i64 (y.job.lo : Int), .int .i64 (y.job.hi : Int), .string (bs y.job.after), .int .i64 (y.first : Int), .int .i64 (y.count : Int), .string (bs y.want), .slice y.pa y.pn y.pc] 35 (0, 0)) := whole_alloc (whole_new wz _) _
      have YP : ((wz.alloc (.cells #[.int .i64 (y.batch : Int), .string (bs y.job.name), .int .i64 (y.job.nodes : Int), .int .i64 (y.job.time : Int), .bool y.job.arr, .int .i64 (y.job.lo : Int), .int .i64 (y.job.hi : Int), .string (bs y.job.after), .int .i64 (y.first : Int), .int .i64 (y.count : Int), .string (bs y.want), .slice y.pa y.pn y.pc] 35)).alloc (.cells #[.int .i64 0, .int .i64 (y.first : Int), .int .i64 (y.count : Int)] 65)).heap[wz.heap.size + 1]? = some (.cells #[.int .i64 0, .int .i64 (y.first : Int), .int .i64 (y.count : Int)] 65 (0, 0)) := by
        have := whole_new (wz.alloc (.cells #[.int .i64 (y.batch : Int), .string (bs y.job.name), .int .i64 (y.job.nodes : Int), .int .i64 (y.job.time : Int), .bool y.job.arr, .int .i64 (y.job.lo : Int), .int .i64 (y.job.hi : Int), .string (bs y.job.after), .int .i64 (y.first : Int), .int .i64 (y.count : Int), .string (bs y.want), .slice y.pa y.pn y.pc] 35)) (.cells #[.int .i64 0, .int .i64 (y.first : Int), .int .i64 (y.count : Int)] 65 (0, 0))
        rw [World.size_alloc] at this; exact this
      have hgb := E.hlt
      have hro : (Value.slice m.pa m.pn m.pc).ownBlock ≠ some (wz.heap.size + 1) := by
        obtain ⟨n', xs', _, hown⟩ := E.pt
        intro q; have := (hown.lt _ q).2; omega
      replace E := (E.alloc (.cells #[.int .i64 (y.batch : Int), .string (bs y.job.name), .int .i64 (y.job.nodes : Int), .int .i64 (y.job.time : Int), .bool y.job.arr, .int .i64 (y.job.lo : Int), .int .i64 (y.job.hi : Int), .string (bs y.job.after), .int .i64 (y.first : Int), .int .i64 (y.count : Int), .string (bs y.want), .slice y.pa y.pn y.pc] 35)).alloc (.cells #[.int .i64 0, .int .i64 (y.first : Int), .int .i64 (y.count : Int)] 65)
      replace U3 := U3.trans (Upon.below (((Below.refl h wz).alloc (by omega) (.cells #[.int .i64 (y.batch : Int), .string (bs y.job.name), .int .i64 (y.job.nodes : Int), .int .i64 (y.job.time : Int), .bool y.job.arr, .int .i64 (y.job.lo : Int), .int .i64 (y.job.hi : Int), .string (bs y.job.after), .int .i64 (y.first : Int), .int .i64 (y.count : Int), .string (bs y.want), .slice y.pa y.pn y.pc] 35)).alloc (by simp; omega) (.cells #[.int .i64 0, .int .i64 (y.first : Int), .int .i64 (y.count : Int)] 65)))
      clear l0 l1 l2 l3 l4 l5 l6 l7 l8 l9 l10 l11 hb0
      generalize (wz.alloc (.cells #[.int .i64 (y.batch : Int), .string (bs y.job.name), .int .i64 (y.job.nodes : Int), .int .i64 (y.job.time : Int), .bool y.job.arr, .int .i64 (y.job.lo : Int), .int .i64 (y.job.hi : Int), .string (bs y.job.after), .int .i64 (y.first : Int), .int .i64 (y.count : Int), .string (bs y.want), .slice y.pa y.pn y.pc] 35)).alloc (.cells #[.int .i64 0, .int .i64 (y.first : Int), .int .i64 (y.count : Int)] 65) = x at *
      generalize hgbe : wz.heap.size = gb at *
      clear hgbe
      have hfh := E.fh
      refine (next_any f 3 _ E.fd (by omega) (by omega)).mono ?_
      rintro e x1 ⟨k3, hk3, rfl, hf1, ha1⟩
      have U4 := U3.trans (Upon.aside ha1 (Nat.le_of_lt E.hlt))
      have E4 := E.feed ha1 hf1
      replace YG := (ha1.block gb (whole_lt YG) (by omega)).trans YG
      replace YP := (ha1.block (gb + 1) (whole_lt YP) (by omega)).trans YP
      clear ha1 hf1 E U3
      have yg1 := whole_cell YG 1; have yg4 := whole_cell YG 4; have yg5 := whole_cell YG 5; have yg8 := whole_cell YG 8; have yg9 := whole_cell YG 9
      have yp0 := whole_cell YP 0; have yp1 := whole_cell YP 1; have yp2 := whole_cell YP 2; have zp0 := whole_frozen YP 0
      simp at yg1 yg4 yg5 yg8 yg9 yp0 yp1 yp2
      have hsn := bs_size y.job.name
      have hj6 := hgk.1.nm6
      have hge : gb ≠ gb + 1 := by omega
      cases harr : y.job.arr with
      | false =>
        rw [harr] at yg4
        by_cases hk0 : k3 = 0
        · subst hk0
          have HT : Hid (AtomT (opW 0 ++ y.job.name)) := atomT_ref hgk.1 0
          go_wp2_with fail
          have E5 := E4.setCell (p := ⟨gb + 1, 0, none⟩) (by show h < gb + 1; omega) hro (.int .i64 1)
          have U5 := U4.trans (Upon.below ((Below.refl h x1).setCell (p := ⟨gb + 1, 0, none⟩) (by show h ≤ gb + 1; omega) (.int .i64 1)))
          have YPP := whole_set YP 0 (.int .i64 1)
          simp at YPP
          obtain ⟨q0, q1, q2, YQ⟩ : ∃ q0 q1 q2 : Int, (x1.setCell ⟨gb + 1, 0, none⟩ (.int .i64 1)).heap[gb + 1]? = some (.cells #[.int .i64 q0, .int .i64 q1, .int .i64 q2] 65 (0, 0)) := ⟨_, _, _, YPP⟩
          clear YPP
          generalize (x1.setCell ⟨gb + 1, 0, none⟩ (.int .i64 1)) = z at *
          obtain ⟨n', xs', hn', hown⟩ := E5.pt
          have md := E5.md
          have hhx := md.lt
          have hyx := whole_lt YQ
          have y0 := whole_cell YQ 0; have y1 := whole_cell YQ 1; have y2 := whole_cell YQ 2
          simp at y0 y1 y2
          have m11 := md.c 11; have z11 := md.z 11
          simp [mvC] at m11
          have ah : (Value.slice m.pa m.pn m.pc).ownBlock ≠ some h := by intro q; have := (hown.lt h q).1; omega
          have fz : ∀ o, (z.alloc o).drew.frozen? ⟨h, 11, none⟩ = false := fun o => whole_frozen (w := (z.alloc o).drew) (whole_alloc md o) 11
          go_region_law
            ((refine step_append_lies _ (by rfl) _ _ _ (by rfl) (h + 1) 65 i0 _ 3 24 Tryd.underlying33 hI0 hz0 hz1 hz2 rfl (by omega) (.slice m.pa m.pn m.pc) n' xs' (by rfl) ((hown.alloc _).drew)
                ⟨z.heap.size, 0, none⟩ 1 1 [.int .i64 q0, .int .i64 q1, .int .i64 q2] (by rfl) (by rfl) (World.news_of_block (cs := #[.int .i64 q0, .int .i64 q1, .int .i64 q2]) (t := 65) (fr := (0, 0)) (heap_alloc_new z _)) (by simp [Value.oneCell'])
                (by omega) (by unfold maxLen; omega) (by omega) (by simp; omega) (z.heap.size + 1) (by simp) ?_; intro g3 cap3 w33 hown3 hgrow3 hat3 hlt3; have m3 : Md h m w33 := (hgrow3.block h (by simp; omega) (Ne.symm ah)).trans (whole_alloc md _); have m3c := m3.c 11; have m3z := m3.z 11; simp [mvC] at m3c))
          all_goals
            obtain ⟨p1, p2, p3, p4, p5⟩ := parts_grow (m := m) (x := (z.alloc (.cells #[.int .i64 q0, .int .i64 q1, .int .i64 q2] 65)).drew) (whole_alloc md _) ((hown.alloc _).drew) hgrow3 hown3
            replace p5 := ((Below.refl h z).alloc (by omega) _).drew.trans p5
            clear hgrow3 hat3 m3 m3z p1 p2 fz
            go_wp2_with fail
            go_ret
            exact ⟨opW 0 ++ y.job.name, _, _, _, ret_str (by rw [← bs_append]; rfl), HT.out, E5.next p5 p3 ⟨n' + 1, _, by omega, p4⟩, U5.trans (Upon.below p5)⟩
        by_cases hk1 : k3 = 1
        · subst hk1
          have HT : Hid (AtomT (opW 1 ++ y.job.name)) := atomT_ref hgk.1 1
          go_wp2_with fail
          have E5 := E4.setCell (p := ⟨gb + 1, 0, none⟩) (by show h < gb + 1; omega) hro (.int .i64 2)
          have U5 := U4.trans (Upon.below ((Below.refl h x1).setCell (p := ⟨gb + 1, 0, none⟩) (by show h ≤ gb + 1; omega) (.int .i64 2)))
          have YPP := whole_set YP 0 (.int .i64 2)
          simp at YPP
          obtain ⟨q0, q1, q2, YQ⟩ : ∃ q0 q1 q2 : Int, (x1.setCell ⟨gb + 1, 0, none⟩ (.int .i64 2)).heap[gb + 1]? = some (.cells #[.int .i64 q0, .int .i64 q1, .int .i64 q2] 65 (0, 0)) := ⟨_, _, _, YPP⟩
          clear YPP
          generalize (x1.setCell ⟨gb + 1, 0, none⟩ (.int .i64 2)) = z at *
          obtain ⟨n', xs', hn', hown⟩ := E5.pt
          have md := E5.md
          have hhx := md.lt
          have hyx := whole_lt YQ
          have y0 := whole_cell YQ 0; have y1 := whole_cell YQ 1; have y2 := whole_cell YQ 2
          simp at y0 y1 y2
          have m11 := md.c 11; have z11 := md.z 11
          simp [mvC] at m11
          have ah : (Value.slice m.pa m.pn m.pc).ownBlock ≠ some h := by intro q; have := (hown.lt h q).1; omega
          have fz : ∀ o, (z.alloc o).drew.frozen? ⟨h, 11, none⟩ = false := fun o => whole_frozen (w := (z.alloc o).drew) (whole_alloc md o) 11
          go_region_law
            ((refine step_append_lies _ (by rfl) _ _ _ (by rfl) (h + 1) 65 i0 _ 3 24 Tryd.underlying33 hI0 hz0 hz1 hz2 rfl (by omega) (.slice m.pa m.pn m.pc) n' xs' (by rfl) ((hown.alloc _).drew)
                ⟨z.heap.size, 0, none⟩ 1 1 [.int .i64 q0, .int .i64 q1, .int .i64 q2] (by rfl) (by rfl) (World.news_of_block (cs := #[.int .i64 q0, .int .i64 q1, .int .i64 q2]) (t := 65) (fr := (0, 0)) (heap_alloc_new z _)) (by simp [Value.oneCell'])
                (by omega) (by unfold maxLen; omega) (by omega) (by simp; omega) (z.heap.size + 1) (by simp) ?_; intro g3 cap3 w33 hown3 hgrow3 hat3 hlt3; have m3 : Md h m w33 := (hgrow3.block h (by simp; omega) (Ne.symm ah)).trans (whole_alloc md _); have m3c := m3.c 11; have m3z := m3.z 11; simp [mvC] at m3c))
          all_goals
            obtain ⟨p1, p2, p3, p4, p5⟩ := parts_grow (m := m) (x := (z.alloc (.cells #[.int .i64 q0, .int .i64 q1, .int .i64 q2] 65)).drew) (whole_alloc md _) ((hown.alloc _).drew) hgrow3 hown3
            replace p5 := ((Below.refl h z).alloc (by omega) _).drew.trans p5
            clear hgrow3 hat3 m3 m3z p1 p2 fz
            go_wp2_with fail
            go_ret
            exact ⟨opW 1 ++ y.job.name, _, _, _, ret_str (by rw [← bs_append]; rfl), HT.out, E5.next p5 p3 ⟨n' + 1, _, by omega, p4⟩, U5.trans (Upon.below p5)⟩
        obtain rfl : k3 = 2 := by omega
        · skip
          have HT : Hid (AtomT (opW 2 ++ y.job.name)) := atomT_ref hgk.1 2
          go_wp2_with fail
          have E5 := E4.setCell (p := ⟨gb + 1, 0, none⟩) (by show h < gb + 1; omega) hro (.int .i64 3)
          have U5 := U4.trans (Upon.below ((Below.refl h x1).setCell (p := ⟨gb + 1, 0, none⟩) (by show h ≤ gb + 1; omega) (.int .i64 3)))
          have YPP := whole_set YP 0 (.int .i64 3)
          simp at YPP
          obtain ⟨q0, q1, q2, YQ⟩ : ∃ q0 q1 q2 : Int, (x1.setCell ⟨gb + 1, 0, none⟩ (.int .i64 3)).heap[gb + 1]? = some (.cells #[.int .i64 q0, .int .i64 q1, .int .i64 q2] 65 (0, 0)) := ⟨_, _, _, YPP⟩
          clear YPP
          generalize (x1.setCell ⟨gb + 1, 0, none⟩ (.int .i64 3)) = z at *
          obtain ⟨n', xs', hn', hown⟩ := E5.pt
          have md := E5.md
          have hhx := md.lt
          have hyx := whole_lt YQ
          have y0 := whole_cell YQ 0; have y1 := whole_cell YQ 1; have y2 := whole_cell YQ 2
          simp at y0 y1 y2
          have m11 := md.c 11; have z11 := md.z 11
          simp [mvC] at m11
          have ah : (Value.slice m.pa m.pn m.pc).ownBlock ≠ some h := by intro q; have := (hown.lt h q).1; omega
          have fz : ∀ o, (z.alloc o).drew.frozen? ⟨h, 11, none⟩ = false := fun o => whole_frozen (w := (z.alloc o).drew) (whole_alloc md o) 11
          go_region_law
            ((refine step_append_lies _ (by rfl) _ _ _ (by rfl) (h + 1) 65 i0 _ 3 24 Tryd.underlying33 hI0 hz0 hz1 hz2 rfl (by omega) (.slice m.pa m.pn m.pc) n' xs' (by rfl) ((hown.alloc _).drew)
                ⟨z.heap.size, 0, none⟩ 1 1 [.int .i64 q0, .int .i64 q1, .int .i64 q2] (by rfl) (by rfl) (World.news_of_block (cs := #[.int .i64 q0, .int .i64 q1, .int .i64 q2]) (t := 65) (fr := (0, 0)) (heap_alloc_new z _)) (by simp [Value.oneCell'])
                (by omega) (by unfold maxLen; omega) (by omega) (by simp; omega) (z.heap.size + 1) (by simp) ?_; intro g3 cap3 w33 hown3 hgrow3 hat3 hlt3; have m3 : Md h m w33 := (hgrow3.block h (by simp; omega) (Ne.symm ah)).trans (whole_alloc md _); have m3c := m3.c 11; have m3z := m3.z 11; simp [mvC] at m3c))
          all_goals
            obtain ⟨p1, p2, p3, p4, p5⟩ := parts_grow (m := m) (x := (z.alloc (.cells #[.int .i64 q0, .int .i64 q1, .int .i64 q2] 65)).drew) (whole_alloc md _) ((hown.alloc _).drew) hgrow3 hown3
            replace p5 := ((Below.refl h z).alloc (by omega) _).drew.trans p5
            clear hgrow3 hat3 m3 m3z p1 p2 fz
            go_wp2_with fail
            go_ret
            exact ⟨opW 2 ++ y.job.name, _, _, _, ret_str (by rw [← bs_append]; rfl), HT.out, E5.next p5 p3 ⟨n' + 1, _, by omega, p4⟩, U5.trans (Upon.below p5)⟩
      | true =>
        rw [harr] at yg4
        by_cases hk0 : k3 = 0
        · subst hk0
          have HT : Hid (AtomT (opW 0 ++ y.job.name)) := atomT_ref hgk.1 0
          have HTN : Hid (∀ n, n ≤ 12 → AtomT (opW 0 ++ (y.job.name ++ ([91] ++ (dig2 n ++ [93]))))) := fun n hn => atomT_num hgk.1 0 hn
          go_wp2_with fail
          have E5 := E4.setCell (p := ⟨gb + 1, 0, none⟩) (by show h < gb + 1; omega) hro (.int .i64 1)
          have U5 := U4.trans (Upon.below ((Below.refl h x1).setCell (p := ⟨gb + 1, 0, none⟩) (by show h ≤ gb + 1; omega) (.int .i64 1)))
          have YPP := whole_set YP 0 (.int .i64 1)
          have YGG := whole_set_ne YG ⟨gb + 1, 0, none⟩ (by show gb + 1 ≠ gb; omega) (.int .i64 1)
          simp at YPP
          clear E4 U4 YP YG yg1 yg4 yg5 yg8 yg9 yp0 yp1 yp2 zp0
          generalize x1.setCell ⟨gb + 1, 0, none⟩ (.int .i64 1) = x2 at *
          refine (next_any f 2 _ E5.fd (by omega) (by omega)).mono ?_
          rintro e x3 ⟨k2, hk2', rfl, hf2, ha2⟩
          replace U5 := U5.trans (Upon.aside ha2 (Nat.le_of_lt E5.hlt))
          replace E5 := E5.feed ha2 hf2
          replace YPP := (ha2.block (gb + 1) (whole_lt YPP) (by omega)).trans YPP
          replace YGG := (ha2.block gb (whole_lt YGG) (by omega)).trans YGG
          clear ha2 hf2
          by_cases hkk : k2 = 1
          · subst hkk
            have yg5 := whole_cell YGG 5; have yg8 := whole_cell YGG 8; have yg9 := whole_cell YGG 9
            simp at yg5 yg8 yg9
            go_wp2_with fail
            refine (next_any f y.count _ E5.fd (by have := hgk.2.1; omega) (by have := hgk.2.2.1; omega)).mono ?_
            rintro e x4 ⟨k5, hk5, rfl, hf3, ha3⟩
            replace U5 := U5.trans (Upon.aside ha3 (Nat.le_of_lt E5.hlt))
            replace E5 := E5.feed ha3 hf3
            replace YPP := (ha3.block (gb + 1) (whole_lt YPP) (by omega)).trans YPP
            replace YGG := (ha3.block gb (whole_lt YGG) (by omega)).trans YGG
            clear ha3 hf3 yg5 yg8 yg9
            have yg5 := whole_cell YGG 5; have yg8 := whole_cell YGG 8
            have yp1 := whole_cell YPP 1; have yp2 := whole_cell YPP 2; have zp1 := whole_frozen YPP 1; have zp2 := whole_frozen YPP 2
            simp at yg5 yg8 yp1 yp2
            obtain ⟨g1, g2, g3', g4, g5, g6⟩ := hgk
            have ga := g4 harr
            have gb2 := (g1.arr harr).2.2
            have hlo : y.job.lo + k5 ≤ 12 := by omega
            have hlo1 : (y.job.lo : Int) ≤ 12 := by omega
            have hk51 : (k5 : Int) ≤ 6 := by omega
            have hfi : (y.first : Int) ≤ 1000 := by omega
            go_wp2_with fail
            have E6 := (E5.setCell (p := ⟨gb + 1, 1, none⟩) (by show h < gb + 1; omega) hro (.int .i64 ((y.first : Int) + (k5 : Int)))).setCell (p := ⟨gb + 1, 2, none⟩) (by show h < gb + 1; omega) hro (.int .i64 1)
            have U6 := U5.trans (Upon.below (((Below.refl h x4).setCell (p := ⟨gb + 1, 1, none⟩) (by show h ≤ gb + 1; omega) (.int .i64 ((y.first : Int) + (k5 : Int)))).setCell (p := ⟨gb + 1, 2, none⟩) (by show h ≤ gb + 1; omega) (.int .i64 1)))
            have YP6 := whole_set (whole_set YPP 1 (.int .i64 ((y.first : Int) + (k5 : Int)))) 2 (.int .i64 1)
            simp at YP6
            clear E5 U5 YPP
            have E5 := E6; have U5 := U6; have YPP := YP6
            clear E6 U6 YP6
            rw [show (y.job.lo : Int) + (k5 : Int) = ((y.job.lo + k5 : Nat) : Int) from by omega]
            refine (itoa_any (y.job.lo + k5) hlo _).mono ?_
            rintro e x5 ⟨rfl, hx5⟩
            subst hx5
            have hsd := bs_size (dig2 (y.job.lo + k5))
            have hsd2 := dig2_len (y.job.lo + k5)
            go_wp2_with fail
            obtain ⟨q0, q1, q2, YQ⟩ : ∃ q0 q1 q2 : Int, ((x4.setCell ⟨gb + 1, 1, none⟩ (.int .i64 ((y.first : Int) + (k5 : Int)))).setCell ⟨gb + 1, 2, none⟩ (.int .i64 1)).heap[gb + 1]? = some (.cells #[.int .i64 q0, .int .i64 q1, .int .i64 q2] 65 (0, 0)) := ⟨_, _, _, YPP⟩
            clear YPP
            generalize ((x4.setCell ⟨gb + 1, 1, none⟩ (.int .i64 ((y.first : Int) + (k5 : Int)))).setCell ⟨gb + 1, 2, none⟩ (.int .i64 1)) = z at *
            obtain ⟨n', xs', hn', hown⟩ := E5.pt
            have md := E5.md
            have hhx := md.lt
            have hyx := whole_lt YQ
            have y0 := whole_cell YQ 0; have y1 := whole_cell YQ 1; have y2 := whole_cell YQ 2
            simp at y0 y1 y2
            have m11 := md.c 11; have z11 := md.z 11
            simp [mvC] at m11
            have ah : (Value.slice m.pa m.pn m.pc).ownBlock ≠ some h := by intro q; have := (hown.lt h q).1; omega
            have fz : ∀ o, (z.alloc o).drew.frozen? ⟨h, 11, none⟩ = false := fun o => whole_frozen (w := (z.alloc o).drew) (whole_alloc md o) 11
            go_region_law
              ((refine step_append_lies _ (by rfl) _ _ _ (by rfl) (h + 1) 65 i0 _ 3 24 Tryd.underlying33 hI0 hz0 hz1 hz2 rfl (by omega) (.slice m.pa m.pn m.pc) n' xs' (by rfl) ((hown.alloc _).drew)
                  ⟨z.heap.size, 0, none⟩ 1 1 [.int .i64 q0, .int .i64 q1, .int .i64 q2] (by rfl) (by rfl) (World.news_of_block (cs := #[.int .i64 q0, .int .i64 q1, .int .i64 q2]) (t := 65) (fr := (0, 0)) (heap_alloc_new z _)) (by simp [Value.oneCell'])
                  (by omega) (by unfold maxLen; omega) (by omega) (by simp; omega) (z.heap.size + 1) (by simp) ?_; intro g3 cap3 w33 hown3 hgrow3 hat3 hlt3; have m3 : Md h m w33 := (hgrow3.block h (by simp; omega) (Ne.symm ah)).trans (whole_alloc md _); have m3c := m3.c 11; have m3z := m3.z 11; simp [mvC] at m3c))
            all_goals
              obtain ⟨p1, p2, p3, p4, p5⟩ := parts_grow (m := m) (x := (z.alloc (.cells #[.int .i64 q0, .int .i64 q1, .int .i64 q2] 65)).drew) (whole_alloc md _) ((hown.alloc _).drew) hgrow3 hown3
              replace p5 := ((Below.refl h z).alloc (by omega) _).drew.trans p5
              clear hgrow3 hat3 m3 m3z p1 p2 fz
              go_wp2_with fail
              go_ret
              exact ⟨opW 0 ++ (y.job.name ++ ([91] ++ (dig2 (y.job.lo + k5) ++ [93]))), _, _, _, ret_str (by rw [← bs_append, ← bs_append, ← bs_append, ← bs_append, ← ByteArray.append_assoc, ← ByteArray.append_assoc, ← ByteArray.append_assoc]; rfl), HTN.out _ hlo, E5.next p5 p3 ⟨n' + 1, _, by omega, p4⟩, U5.trans (Upon.below p5)⟩
          · have hkk' : ((k2 : Int) == 1) = false := beqF' (by omega)
            go_wp2_with fail
            obtain ⟨q0, q1, q2, YQ⟩ : ∃ q0 q1 q2 : Int, x3.heap[gb + 1]? = some (.cells #[.int .i64 q0, .int .i64 q1, .int .i64 q2] 65 (0, 0)) := ⟨_, _, _, YPP⟩
            clear YPP
            generalize x3 = z at *
            obtain ⟨n', xs', hn', hown⟩ := E5.pt
            have md := E5.md
            have hhx := md.lt
            have hyx := whole_lt YQ
            have y0 := whole_cell YQ 0; have y1 := whole_cell YQ 1; have y2 := whole_cell YQ 2
            simp at y0 y1 y2
            have m11 := md.c 11; have z11 := md.z 11
            simp [mvC] at m11
            have ah : (Value.slice m.pa m.pn m.pc).ownBlock ≠ some h := by intro q; have := (hown.lt h q).1; omega
            have fz : ∀ o, (z.alloc o).drew.frozen? ⟨h, 11, none⟩ = false := fun o => whole_frozen (w := (z.alloc o).drew) (whole_alloc md o) 11
            go_region_law
              ((refine step_append_lies _ (by rfl) _ _ _ (by rfl) (h + 1) 65 i0 _ 3 24 Tryd.underlying33 hI0 hz0 hz1 hz2 rfl (by omega) (.slice m.pa m.pn m.pc) n' xs' (by rfl) ((hown.alloc _).drew)
                  ⟨z.heap.size, 0, none⟩ 1 1 [.int .i64 q0, .int .i64 q1, .int .i64 q2] (by rfl) (by rfl) (World.news_of_block (cs := #[.int .i64 q0, .int .i64 q1, .int .i64 q2]) (t := 65) (fr := (0, 0)) (heap_alloc_new z _)) (by simp [Value.oneCell'])
                  (by omega) (by unfold maxLen; omega) (by omega) (by simp; omega) (z.heap.size + 1) (by simp) ?_; intro g3 cap3 w33 hown3 hgrow3 hat3 hlt3; have m3 : Md h m w33 := (hgrow3.block h (by simp; omega) (Ne.symm ah)).trans (whole_alloc md _); have m3c := m3.c 11; have m3z := m3.z 11; simp [mvC] at m3c))
            all_goals
              obtain ⟨p1, p2, p3, p4, p5⟩ := parts_grow (m := m) (x := (z.alloc (.cells #[.int .i64 q0, .int .i64 q1, .int .i64 q2] 65)).drew) (whole_alloc md _) ((hown.alloc _).drew) hgrow3 hown3
              replace p5 := ((Below.refl h z).alloc (by omega) _).drew.trans p5
              clear hgrow3 hat3 m3 m3z p1 p2 fz
              go_wp2_with fail
              go_ret
              exact ⟨opW 0 ++ y.job.name, _, _, _, ret_str (by rw [← bs_append]; rfl), HT.out, E5.next p5 p3 ⟨n' + 1, _, by omega, p4⟩, U5.trans (Upon.below p5)⟩
        by_cases hk1 : k3 = 1
        · subst hk1
          have HT : Hid (AtomT (opW 1 ++ y.job.name)) := atomT_ref hgk.1 1
          have HTN : Hid (∀ n, n ≤ 12 → AtomT (opW 1 ++ (y.job.name ++ ([91] ++ (dig2 n ++ [93]))))) := fun n hn => atomT_num hgk.1 1 hn
          go_wp2_with fail
          have E5 := E4.setCell (p := ⟨gb + 1, 0, none⟩) (by show h < gb + 1; omega) hro (.int .i64 2)
          have U5 := U4.trans (Upon.below ((Below.refl h x1).setCell (p := ⟨gb + 1, 0, none⟩) (by show h ≤ gb + 1; omega) (.int .i64 2)))
          have YPP := whole_set YP 0 (.int .i64 2)
          have YGG := whole_set_ne YG ⟨gb + 1, 0, none⟩ (by show gb + 1 ≠ gb; omega) (.int .i64 2)
          simp at YPP
          clear E4 U4 YP YG yg1 yg4 yg5 yg8 yg9 yp0 yp1 yp2 zp0
          generalize x1.setCell ⟨gb + 1, 0, none⟩ (.int .i64 2) = x2 at *
          refine (next_any f 2 _ E5.fd (by omega) (by omega)).mono ?_
          rintro e x3 ⟨k2, hk2', rfl, hf2, ha2⟩
          replace U5 := U5.trans (Upon.aside ha2 (Nat.le_of_lt E5.hlt))
          replace E5 := E5.feed ha2 hf2
          replace YPP := (ha2.block (gb + 1) (whole_lt YPP) (by omega)).trans YPP
          replace YGG := (ha2.block gb (whole_lt YGG) (by omega)).trans YGG
          clear ha2 hf2
          by_cases hkk : k2 = 1
          · subst hkk
            have yg5 := whole_cell YGG 5; have yg8 := whole_cell YGG 8; have yg9 := whole_cell YGG 9
            simp at yg5 yg8 yg9
            go_wp2_with fail
            refine (next_any f y.count _ E5.fd (by have := hgk.2.1; omega) (by have := hgk.2.2.1; omega)).mono ?_
            rintro e x4 ⟨k5, hk5, rfl, hf3, ha3⟩
            replace U5 := U5.trans (Upon.aside ha3 (Nat.le_of_lt E5.hlt))
            replace E5 := E5.feed ha3 hf3
            replace YPP := (ha3.block (gb + 1) (whole_lt YPP) (by omega)).trans YPP
            replace YGG := (ha3.block gb (whole_lt YGG) (by omega)).trans YGG
            clear ha3 hf3 yg5 yg8 yg9
            have yg5 := whole_cell YGG 5; have yg8 := whole_cell YGG 8
            have yp1 := whole_cell YPP 1; have yp2 := whole_cell YPP 2; have zp1 := whole_frozen YPP 1; have zp2 := whole_frozen YPP 2
            simp at yg5 yg8 yp1 yp2
            obtain ⟨g1, g2, g3', g4, g5, g6⟩ := hgk
            have ga := g4 harr
            have gb2 := (g1.arr harr).2.2
            have hlo : y.job.lo + k5 ≤ 12 := by omega
            have hlo1 : (y.job.lo : Int) ≤ 12 := by omega
            have hk51 : (k5 : Int) ≤ 6 := by omega
            have hfi : (y.first : Int) ≤ 1000 := by omega
            go_wp2_with fail
            have E6 := (E5.setCell (p := ⟨gb + 1, 1, none⟩) (by show h < gb + 1; omega) hro (.int .i64 ((y.first : Int) + (k5 : Int)))).setCell (p := ⟨gb + 1, 2, none⟩) (by show h < gb + 1; omega) hro (.int .i64 1)
            have U6 := U5.trans (Upon.below (((Below.refl h x4).setCell (p := ⟨gb + 1, 1, none⟩) (by show h ≤ gb + 1; omega) (.int .i64 ((y.first : Int) + (k5 : Int)))).setCell (p := ⟨gb + 1, 2, none⟩) (by show h ≤ gb + 1; omega) (.int .i64 1)))
            have YP6 := whole_set (whole_set YPP 1 (.int .i64 ((y.first : Int) + (k5 : Int)))) 2 (.int .i64 1)
            simp at YP6
            clear E5 U5 YPP
            have E5 := E6; have U5 := U6; have YPP := YP6
            clear E6 U6 YP6
            rw [show (y.job.lo : Int) + (k5 : Int) = ((y.job.lo + k5 : Nat) : Int) from by omega]
            refine (itoa_any (y.job.lo + k5) hlo _).mono ?_
            rintro e x5 ⟨rfl, hx5⟩
            subst hx5
            have hsd := bs_size (dig2 (y.job.lo + k5))
            have hsd2 := dig2_len (y.job.lo + k5)
            go_wp2_with fail
            obtain ⟨q0, q1, q2, YQ⟩ : ∃ q0 q1 q2 : Int, ((x4.setCell ⟨gb + 1, 1, none⟩ (.int .i64 ((y.first : Int) + (k5 : Int)))).setCell ⟨gb + 1, 2, none⟩ (.int .i64 1)).heap[gb + 1]? = some (.cells #[.int .i64 q0, .int .i64 q1, .int .i64 q2] 65 (0, 0)) := ⟨_, _, _, YPP⟩
            clear YPP
            generalize ((x4.setCell ⟨gb + 1, 1, none⟩ (.int .i64 ((y.first : Int) + (k5 : Int)))).setCell ⟨gb + 1, 2, none⟩ (.int .i64 1)) = z at *
            obtain ⟨n', xs', hn', hown⟩ := E5.pt
            have md := E5.md
            have hhx := md.lt
            have hyx := whole_lt YQ
            have y0 := whole_cell YQ 0; have y1 := whole_cell YQ 1; have y2 := whole_cell YQ 2
            simp at y0 y1 y2
            have m11 := md.c 11; have z11 := md.z 11
            simp [mvC] at m11
            have ah : (Value.slice m.pa m.pn m.pc).ownBlock ≠ some h := by intro q; have := (hown.lt h q).1; omega
            have fz : ∀ o, (z.alloc o).drew.frozen? ⟨h, 11, none⟩ = false := fun o => whole_frozen (w := (z.alloc o).drew) (whole_alloc md o) 11
            go_region_law
              ((refine step_append_lies _ (by rfl) _ _ _ (by rfl) (h + 1) 65 i0 _ 3 24 Tryd.underlying33 hI0 hz0 hz1 hz2 rfl (by omega) (.slice m.pa m.pn m.pc) n' xs' (by rfl) ((hown.alloc _).drew)
                  ⟨z.heap.size, 0, none⟩ 1 1 [.int .i64 q0, .int .i64 q1, .int .i64 q2] (by rfl) (by rfl) (World.news_of_block (cs := #[.int .i64 q0, .int .i64 q1, .int .i64 q2]) (t := 65) (fr := (0, 0)) (heap_alloc_new z _)) (by simp [Value.oneCell'])
                  (by omega) (by unfold maxLen; omega) (by omega) (by simp; omega) (z.heap.size + 1) (by simp) ?_; intro g3 cap3 w33 hown3 hgrow3 hat3 hlt3; have m3 : Md h m w33 := (hgrow3.block h (by simp; omega) (Ne.symm ah)).trans (whole_alloc md _); have m3c := m3.c 11; have m3z := m3.z 11; simp [mvC] at m3c))
            all_goals
              obtain ⟨p1, p2, p3, p4, p5⟩ := parts_grow (m := m) (x := (z.alloc (.cells #[.int .i64 q0, .int .i64 q1, .int .i64 q2] 65)).drew) (whole_alloc md _) ((hown.alloc _).drew) hgrow3 hown3
              replace p5 := ((Below.refl h z).alloc (by omega) _).drew.trans p5
              clear hgrow3 hat3 m3 m3z p1 p2 fz
              go_wp2_with fail
              go_ret
              exact ⟨opW 1 ++ (y.job.name ++ ([91] ++ (dig2 (y.job.lo + k5) ++ [93]))), _, _, _, ret_str (by rw [← bs_append, ← bs_append, ← bs_append, ← bs_append, ← ByteArray.append_assoc, ← ByteArray.append_assoc, ← ByteArray.append_assoc]; rfl), HTN.out _ hlo, E5.next p5 p3 ⟨n' + 1, _, by omega, p4⟩, U5.trans (Upon.below p5)⟩
          · have hkk' : ((k2 : Int) == 1) = false := beqF' (by omega)
            go_wp2_with fail
            obtain ⟨q0, q1, q2, YQ⟩ : ∃ q0 q1 q2 : Int, x3.heap[gb + 1]? = some (.cells #[.int .i64 q0, .int .i64 q1, .int .i64 q2] 65 (0, 0)) := ⟨_, _, _, YPP⟩
            clear YPP
            generalize x3 = z at *
            obtain ⟨n', xs', hn', hown⟩ := E5.pt
            have md := E5.md
            have hhx := md.lt
            have hyx := whole_lt YQ
            have y0 := whole_cell YQ 0; have y1 := whole_cell YQ 1; have y2 := whole_cell YQ 2
            simp at y0 y1 y2
            have m11 := md.c 11; have z11 := md.z 11
            simp [mvC] at m11
            have ah : (Value.slice m.pa m.pn m.pc).ownBlock ≠ some h := by intro q; have := (hown.lt h q).1; omega
            have fz : ∀ o, (z.alloc o).drew.frozen? ⟨h, 11, none⟩ = false := fun o => whole_frozen (w := (z.alloc o).drew) (whole_alloc md o) 11
            go_region_law
              ((refine step_append_lies _ (by rfl) _ _ _ (by rfl) (h + 1) 65 i0 _ 3 24 Tryd.underlying33 hI0 hz0 hz1 hz2 rfl (by omega) (.slice m.pa m.pn m.pc) n' xs' (by rfl) ((hown.alloc _).drew)
                  ⟨z.heap.size, 0, none⟩ 1 1 [.int .i64 q0, .int .i64 q1, .int .i64 q2] (by rfl) (by rfl) (World.news_of_block (cs := #[.int .i64 q0, .int .i64 q1, .int .i64 q2]) (t := 65) (fr := (0, 0)) (heap_alloc_new z _)) (by simp [Value.oneCell'])
                  (by omega) (by unfold maxLen; omega) (by omega) (by simp; omega) (z.heap.size + 1) (by simp) ?_; intro g3 cap3 w33 hown3 hgrow3 hat3 hlt3; have m3 : Md h m w33 := (hgrow3.block h (by simp; omega) (Ne.symm ah)).trans (whole_alloc md _); have m3c := m3.c 11; have m3z := m3.z 11; simp [mvC] at m3c))
            all_goals
              obtain ⟨p1, p2, p3, p4, p5⟩ := parts_grow (m := m) (x := (z.alloc (.cells #[.int .i64 q0, .int .i64 q1, .int .i64 q2] 65)).drew) (whole_alloc md _) ((hown.alloc _).drew) hgrow3 hown3
              replace p5 := ((Below.refl h z).alloc (by omega) _).drew.trans p5
              clear hgrow3 hat3 m3 m3z p1 p2 fz
              go_wp2_with fail
              go_ret
              exact ⟨opW 1 ++ y.job.name, _, _, _, ret_str (by rw [← bs_append]; rfl), HT.out, E5.next p5 p3 ⟨n' + 1, _, by omega, p4⟩, U5.trans (Upon.below p5)⟩
        obtain rfl : k3 = 2 := by omega
        · skip
          have HT : Hid (AtomT (opW 2 ++ y.job.name)) := atomT_ref hgk.1 2
          have HTN : Hid (∀ n, n ≤ 12 → AtomT (opW 2 ++ (y.job.name ++ ([91] ++ (dig2 n ++ [93]))))) := fun n hn => atomT_num hgk.1 2 hn
          go_wp2_with fail
          have E5 := E4.setCell (p := ⟨gb + 1, 0, none⟩) (by show h < gb + 1; omega) hro (.int .i64 3)
          have U5 := U4.trans (Upon.below ((Below.refl h x1).setCell (p := ⟨gb + 1, 0, none⟩) (by show h ≤ gb + 1; omega) (.int .i64 3)))
          have YPP := whole_set YP 0 (.int .i64 3)
          have YGG := whole_set_ne YG ⟨gb + 1, 0, none⟩ (by show gb + 1 ≠ gb; omega) (.int .i64 3)
          simp at YPP
          clear E4 U4 YP YG yg1 yg4 yg5 yg8 yg9 yp0 yp1 yp2 zp0
          generalize x1.setCell ⟨gb + 1, 0, none⟩ (.int .i64 3) = x2 at *
          refine (next_any f 2 _ E5.fd (by omega) (by omega)).mono ?_
          rintro e x3 ⟨k2, hk2', rfl, hf2, ha2⟩
          replace U5 := U5.trans (Upon.aside ha2 (Nat.le_of_lt E5.hlt))
          replace E5 := E5.feed ha2 hf2
          replace YPP := (ha2.block (gb + 1) (whole_lt YPP) (by omega)).trans YPP
          replace YGG := (ha2.block gb (whole_lt YGG) (by omega)).trans YGG
          clear ha2 hf2
          by_cases hkk : k2 = 1
          · subst hkk
            have yg5 := whole_cell YGG 5; have yg8 := whole_cell YGG 8; have yg9 := whole_cell YGG 9
            simp at yg5 yg8 yg9
            go_wp2_with fail
            refine (next_any f y.count _ E5.fd (by have := hgk.2.1; omega) (by have := hgk.2.2.1; omega)).mono ?_
            rintro e x4 ⟨k5, hk5, rfl, hf3, ha3⟩
            replace U5 := U5.trans (Upon.aside ha3 (Nat.le_of_lt E5.hlt))
            replace E5 := E5.feed ha3 hf3
            replace YPP := (ha3.block (gb + 1) (whole_lt YPP) (by omega)).trans YPP
            replace YGG := (ha3.block gb (whole_lt YGG) (by omega)).trans YGG
            clear ha3 hf3 yg5 yg8 yg9
            have yg5 := whole_cell YGG 5; have yg8 := whole_cell YGG 8
            have yp1 := whole_cell YPP 1; have yp2 := whole_cell YPP 2; have zp1 := whole_frozen YPP 1; have zp2 := whole_frozen YPP 2
            simp at yg5 yg8 yp1 yp2
            obtain ⟨g1, g2, g3', g4, g5, g6⟩ := hgk
            have ga := g4 harr
            have gb2 := (g1.arr harr).2.2
            have hlo : y.job.lo + k5 ≤ 12 := by omega
            have hlo1 : (y.job.lo : Int) ≤ 12 := by omega
            have hk51 : (k5 : Int) ≤ 6 := by omega
            have hfi : (y.first : Int) ≤ 1000 := by omega
            go_wp2_with fail
            have E6 := (E5.setCell (p := ⟨gb + 1, 1, none⟩) (by show h < gb + 1; omega) hro (.int .i64 ((y.first : Int) + (k5 : Int)))).setCell (p := ⟨gb + 1, 2, none⟩) (by show h < gb + 1; omega) hro (.int .i64 1)
            have U6 := U5.trans (Upon.below (((Below.refl h x4).setCell (p := ⟨gb + 1, 1, none⟩) (by show h ≤ gb + 1; omega) (.int .i64 ((y.first : Int) + (k5 : Int)))).setCell (p := ⟨gb + 1, 2, none⟩) (by show h ≤ gb + 1; omega) (.int .i64 1)))
            have YP6 := whole_set (whole_set YPP 1 (.int .i64 ((y.first : Int) + (k5 : Int)))) 2 (.int .i64 1)
            simp at YP6
            clear E5 U5 YPP
            have E5 := E6; have U5 := U6; have YPP := YP6
            clear E6 U6 YP6
            rw [show (y.job.lo : Int) + (k5 : Int) = ((y.job.lo + k5 : Nat) : Int) from by omega]
            refine (itoa_any (y.job.lo + k5) hlo _).mono ?_
            rintro e x5 ⟨rfl, hx5⟩
            subst hx5
            have hsd := bs_size (dig2 (y.job.lo + k5))
            have hsd2 := dig2_len (y.job.lo + k5)
            go_wp2_with fail
            obtain ⟨q0, q1, q2, YQ⟩ : ∃ q0 q1 q2 : Int, ((x4.setCell ⟨gb + 1, 1, none⟩ (.int .i64 ((y.first : Int) + (k5 : Int)))).setCell ⟨gb + 1, 2, none⟩ (.int .i64 1)).heap[gb + 1]? = some (.cells #[.int .i64 q0, .int .i64 q1, .int .i64 q2] 65 (0, 0)) := ⟨_, _, _, YPP⟩
            clear YPP
            generalize ((x4.setCell ⟨gb + 1, 1, none⟩ (.int .i64 ((y.first : Int) + (k5 : Int)))).setCell ⟨gb + 1, 2, none⟩ (.int .i64 1)) = z at *
            obtain ⟨n', xs', hn', hown⟩ := E5.pt
            have md := E5.md
            have hhx := md.lt
            have hyx := whole_lt YQ
            have y0 := whole_cell YQ 0; have y1 := whole_cell YQ 1; have y2 := whole_cell YQ 2
            simp at y0 y1 y2
            have m11 := md.c 11; have z11 := md.z 11
            simp [mvC] at m11
            have ah : (Value.slice m.pa m.pn m.pc).ownBlock ≠ some h := by intro q; have := (hown.lt h q).1; omega
            have fz : ∀ o, (z.alloc o).drew.frozen? ⟨h, 11, none⟩ = false := fun o => whole_frozen (w := (z.alloc o).drew) (whole_alloc md o) 11
            go_region_law
              ((refine step_append_lies _ (by rfl) _ _ _ (by rfl) (h + 1) 65 i0 _ 3 24 Tryd.underlying33 hI0 hz0 hz1 hz2 rfl (by omega) (.slice m.pa m.pn m.pc) n' xs' (by rfl) ((hown.alloc _).drew)
                  ⟨z.heap.size, 0, none⟩ 1 1 [.int .i64 q0, .int .i64 q1, .int .i64 q2] (by rfl) (by rfl) (World.news_of_block (cs := #[.int .i64 q0, .int .i64 q1, .int .i64 q2]) (t := 65) (fr := (0, 0)) (heap_alloc_new z _)) (by simp [Value.oneCell'])
                  (by omega) (by unfold maxLen; omega) (by omega) (by simp; omega) (z.heap.size + 1) (by simp) ?_; intro g3 cap3 w33 hown3 hgrow3 hat3 hlt3; have m3 : Md h m w33 := (hgrow3.block h (by simp; omega) (Ne.symm ah)).trans (whole_alloc md _); have m3c := m3.c 11; have m3z := m3.z 11; simp [mvC] at m3c))
            all_goals
              obtain ⟨p1, p2, p3, p4, p5⟩ := parts_grow (m := m) (x := (z.alloc (.cells #[.int .i64 q0, .int .i64 q1, .int .i64 q2] 65)).drew) (whole_alloc md _) ((hown.alloc _).drew) hgrow3 hown3
              replace p5 := ((Below.refl h z).alloc (by omega) _).drew.trans p5
              clear hgrow3 hat3 m3 m3z p1 p2 fz
              go_wp2_with fail
              go_ret
              exact ⟨opW 2 ++ (y.job.name ++ ([91] ++ (dig2 (y.job.lo + k5) ++ [93]))), _, _, _, ret_str (by rw [← bs_append, ← bs_append, ← bs_append, ← bs_append, ← ByteArray.append_assoc, ← ByteArray.append_assoc, ← ByteArray.append_assoc]; rfl), HTN.out _ hlo, E5.next p5 p3 ⟨n' + 1, _, by omega, p4⟩, U5.trans (Upon.below p5)⟩
          · have hkk' : ((k2 : Int) == 1) = false := beqF' (by omega)
            go_wp2_with fail
            obtain ⟨q0, q1, q2, YQ⟩ : ∃ q0 q1 q2 : Int, x3.heap[gb + 1]? = some (.cells #[.int .i64 q0, .int .i64 q1, .int .i64 q2] 65 (0, 0)) := ⟨_, _, _, YPP⟩
            clear YPP
            generalize x3 = z at *
            obtain ⟨n', xs', hn', hown⟩ := E5.pt
            have md := E5.md
            have hhx := md.lt
            have hyx := whole_lt YQ
            have y0 := whole_cell YQ 0; have y1 := whole_cell YQ 1; have y2 := whole_cell YQ 2
            simp at y0 y1 y2
            have m11 := md.c 11; have z11 := md.z 11
            simp [mvC] at m11
            have ah : (Value.slice m.pa m.pn m.pc).ownBlock ≠ some h := by intro q; have := (hown.lt h q).1; omega
            have fz : ∀ o, (z.alloc o).drew.frozen? ⟨h, 11, none⟩ = false := fun o => whole_frozen (w := (z.alloc o).drew) (whole_alloc md o) 11
            go_region_law
              ((refine step_append_lies _ (by rfl) _ _ _ (by rfl) (h + 1) 65 i0 _ 3 24 Tryd.underlying33 hI0 hz0 hz1 hz2 rfl (by omega) (.slice m.pa m.pn m.pc) n' xs' (by rfl) ((hown.alloc _).drew)
                  ⟨z.heap.size, 0, none⟩ 1 1 [.int .i64 q0, .int .i64 q1, .int .i64 q2] (by rfl) (by rfl) (World.news_of_block (cs := #[.int .i64 q0, .int .i64 q1, .int .i64 q2]) (t := 65) (fr := (0, 0)) (heap_alloc_new z _)) (by simp [Value.oneCell'])
                  (by omega) (by unfold maxLen; omega) (by omega) (by simp; omega) (z.heap.size + 1) (by simp) ?_; intro g3 cap3 w33 hown3 hgrow3 hat3 hlt3; have m3 : Md h m w33 := (hgrow3.block h (by simp; omega) (Ne.symm ah)).trans (whole_alloc md _); have m3c := m3.c 11; have m3z := m3.z 11; simp [mvC] at m3c))
            all_goals
              obtain ⟨p1, p2, p3, p4, p5⟩ := parts_grow (m := m) (x := (z.alloc (.cells #[.int .i64 q0, .int .i64 q1, .int .i64 q2] 65)).drew) (whole_alloc md _) ((hown.alloc _).drew) hgrow3 hown3
              replace p5 := ((Below.refl h z).alloc (by omega) _).drew.trans p5
              clear hgrow3 hat3 m3 m3z p1 p2 fz
              go_wp2_with fail
              go_ret
              exact ⟨opW 2 ++ y.job.name, _, _, _, ret_str (by rw [← bs_append]; rfl), HT.out, E5.next p5 p3 ⟨n' + 1, _, by omega, p4⟩, U5.trans (Upon.below p5)⟩

end Go.Proofs.YtanknpmojblmcaaDoor
