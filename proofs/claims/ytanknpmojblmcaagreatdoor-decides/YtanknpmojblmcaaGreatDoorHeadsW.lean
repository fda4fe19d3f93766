/-
  The reader's heads.
-/
import Derived.Test.YtanknpmojblmcaaGreatDoorHeadX
import Derived.Test.YtanknpmojblmcaaGreatDoorSpec3
set_option linter.unusedSimpArgs false
set_option linter.unusedVariables false
namespace Go.Proofs.YtanknpmojblmcaaGreatDoor
open Go.RowKit

/-- The cells of a list of heads, each with the slice of its want's steps. -/
def flatH (xs : List (HV × Value)) : List Value := (xs.map fun x => (hvC x.1 x.2).toList).flatten
theorem flatH_snoc (xs : List (HV × Value)) (x : HV × Value) : flatH (xs ++ [x]) = flatH xs ++ (hvC x.1 x.2).toList := by simp [flatH]

theorem Sr.grow {b base size n : Nat} {e : TypeId} {rv v : Value} {S : List Stp} {ys : List Value} {w w' : World} (h : Sr b rv S w) (hv : w.ownsRow base e size v n ys) (he : e ≠ 112) (hg : w.grownBy w' v.ownBlock) : Sr b rv S w' := by
  refine World.ownsRow.kept h hg ?_
  rcases h.2 with ⟨rfl, _⟩ | ⟨g, cap, cur, rfl, _, h1, _⟩
  · exact Or.inl rfl
  · right
    intro q
    rcases hv.2 with ⟨rfl, _⟩ | ⟨g', cap', cur', rfl, _, h2, _⟩
    · cases q
    · simp [Value.ownBlock] at q
      subst q
      rw [h1] at h2
      injection h2 with h2
      injection h2 with _ h3 _
      exact he h3.symm

theorem hdsL_yes {L : List UInt8} {n : Nat} {s : Nat × Bool} {hs : List HV} (h : sk L 10 (lineH L s hs).2 = true) : hdsL L (n + 1) s hs = hdsL L n ((lineH L s hs).2.1 + 1, (lineH L s hs).2.2) (lineH L s hs).1 := by simp [hdsL, h]
theorem hdsL_no {L : List UInt8} {n : Nat} {s : Nat × Bool} {hs : List HV} (h : sk L 10 (lineH L s hs).2 = false) : hdsL L (n + 1) s hs = lineH L s hs := by simp [hdsL, h]

theorem infoHead : (Tryz.prog.info? 64).map (fun i => (i.zero, i.size, i.bytes)) = some (some (.agg (hvC hv0 (.slice none 0 0))), 12, 128) := by kernel_rfl

set_option maxHeartbeats 2000000 in
theorem heads_any {rv : Value} (b : Nat) (T : ByteArray) (w : World) (hr : Rd b rv T 0 false w) (hT : T.size ≤ 600) :
    Calls Tryz.prog 40 #[.pointer (some ⟨b, 0, none⟩)] w fun e w' => ∃ v xs rv', e = .returned v ∧ w'.ownsRow w.heap.size 64 12 v xs.length (flatH xs) ∧ xs.map Prod.fst = (hdsR T.data.toList).1 ∧ (∀ x ∈ xs, Sr b x.2 x.1.want w') ∧ Rd b rv' T (hdsR T.data.toList).2.1 (hdsR T.data.toList).2.2 w' ∧ Aside b w w' := by
  obtain ⟨i0, hi, hz0, hz1, hz2⟩ := info_parts infoHead
  have hlen : T.data.toList.length = T.size := by simp
  have hb := hr.lt
  go_enter Tryz.func40, Tryz.ntmps40
  go_wp2_with fail
  go_loopg [3, 4] (T.size + 2) (fun g v more wr => ∃ (i m : Nat) (f : Bool) (hs : List HV) (xs : List (HV × Value)) (rk : Value), i ≤ T.size ∧ hs.length ≤ i + 1 ∧ hs.length = xs.length ∧ Hid (xs.map Prod.fst = hs) ∧ Hid (∀ x ∈ xs, Sr b x.2 x.1.want wr) ∧ wr.ownsRow w.heap.size 64 12 v xs.length (flatH xs) ∧ Rd b rk T i f wr ∧ Aside b w wr ∧ ((more = .bool true ∧ g = T.size - i + 2 ∧ hs.length ≤ i ∧ T.size - i < m ∧ Hid (hdsL T.data.toList (T.data.toList.length + 1) (0, false) [] = hdsL T.data.toList m (i, f) hs)) ∨ (more = .bool false ∧ g = 1 ∧ Hid (hdsL T.data.toList (T.data.toList.length + 1) (0, false) [] = (hs, (i, f))))))
  case atStart => exact ⟨0, T.data.toList.length + 1, false, [], [], rv, by omega, by simp, rfl, rfl, (fun x hx => by cases hx), World.ownsRow_nil _ _ _ _, hr, Aside.refl b w, Or.inl ⟨rfl, rfl, by simp, by omega, rfl⟩⟩
  case round =>
    obtain ⟨i, m, f, hs, xs, rk, hi1, hl1, hxl, HX, HSR, hown, hr1, ha1, (⟨rfl, rfl, hl2, hm, HL⟩ | ⟨rfl, rfl, HL⟩)⟩ := hrel
    · go_wp2_with fail
      refine (seesHead_any b i f T _ hr1 hT hi1).mono ?_
      rintro e w2 ⟨rfl, n2, hw2⟩
      have hr2 : Rd b rk T i f w2 := by rw [hw2]; exact hr1.drewN n2
      have ha2 : Aside b wr w2 := by rw [hw2]; exact (Aside.refl b wr).drewN n2
      have hown2 := owns_aside hown ha2 hb
      have HSR2 : Hid (∀ x ∈ xs, Sr b x.2 x.1.want w2) := fun x hx => (HSR.out x hx).kept ha2
      replace ha2 := ha1.trans ha2
      clear hw2 hr1 ha1 hown HSR
      obtain ⟨m', rfl⟩ : ∃ m', m = m' + 1 := ⟨m - 1, by omega⟩
      have hline := lineH_goes T.data.toList (i, f) hs (by rw [hlen]; exact hi1)
      have hll := lineH_len T.data.toList (i, f) hs
      cases hs1 : seesB T.data.toList i with
      | false =>
        have HE : Hid (lineH T.data.toList (i, f) hs = (hs, (toNl T.data.toList i, f))) := by show _ = _; simp [lineH, hs1]
        clear hs1
        go_wp2_with fail
        refine (command_any b i f T _ hr2 hT hi1).mono ?_
        rintro e w3 ⟨rfl, hr3, ha3⟩
        have hown3 := owns_aside hown2 ha3 hb
        have HSR3 : Hid (∀ x ∈ xs, Sr b x.2 x.1.want w3) := fun x hx => (HSR2.out x hx).kept ha3
        replace ha3 := ha2.trans ha3
        rw [HE.out] at hline hll
        have HL2 := HL.out
        generalize toNl T.data.toList i = j at *
        obtain ⟨hj1, hj2⟩ := hline
        simp only at hj1 hj2
        rw [hlen] at hj2
        clear hr2 ha2 hown2
        have HL3 : Hid _ := HL2
        clear HL2 HL
        go_wp2_with fail
        refine (skip_any b j 10 f T _ hr3 hT).mono ?_
        rintro e w4 ⟨rfl, hr4, ha4⟩
        have hown4 := owns_aside hown3 ha4 hb
        have HSR4 : Hid (∀ x ∈ xs, Sr b x.2 x.1.want w4) := fun x hx => (HSR3.out x hx).kept ha4
        replace ha4 := ha3.trans ha4
        clear hr3 ha3 hown3
        cases hs2 : sk T.data.toList 10 (j, f) with
        | false =>
          rw [skS_no hs2] at hr4
          have HL4 : Hid (hdsL T.data.toList (T.data.toList.length + 1) (0, false) [] = (hs, (j, f))) := by show _ = _; rw [HL3.out, hdsL_no (by rw [HE.out]; exact hs2), HE.out]
          clear HL3 hs2 HE
          go_wp2_with fail
          go_roundg 1
          case measure => omega
          case rel => exact ⟨j, 0, f, hs, xs, rk, hj2, by omega, hxl, HX, HSR4, hown4, hr4, ha4, Or.inr ⟨rfl, rfl, HL4⟩⟩
        | true =>
          have hlt := (sk_lt hs2).1
          rw [hlen] at hlt
          simp only at hlt
          rw [skS_yes hs2] at hr4
          have HL4 : Hid (hdsL T.data.toList (T.data.toList.length + 1) (0, false) [] = hdsL T.data.toList m' (j + 1, f) hs) := by show _ = _; rw [HL3.out, hdsL_yes (by rw [HE.out]; exact hs2), HE.out]
          clear HL3 hs2 HE
          go_wp2_with fail
          go_roundg (T.size - (j + 1) + 2)
          case measure => omega
          case rel => exact ⟨j + 1, m', f, hs, xs, rk, hlt, by omega, hxl, HX, HSR4, hown4, hr4, ha4, Or.inl ⟨rfl, rfl, by omega, by omega, HL4⟩⟩
      | true =>
        have HE : Hid (lineH T.data.toList (i, f) hs = (hs ++ [(headH T.data.toList (i, f)).1], (headH T.data.toList (i, f)).2)) := by show _ = _; simp [lineH, hs1]
        clear hs1
        go_wp2_with fail
        refine (head_any b i f T _ hr2 hT hi1).mono ?_
        rintro e w3 ⟨rk3, q3, he, hr3, hq3, ha3⟩
        have hown3 := owns_aside hown2 ha3 hb
        have HSR3 : Hid (∀ x ∈ xs, Sr b x.2 x.1.want w3) := fun x hx => (HSR2.out x hx).kept ha3
        replace ha3 := ha2.trans ha3
        rw [HE.out] at hline hll
        generalize headH T.data.toList (i, f) = r at *
        obtain ⟨h, j, f1⟩ := r
        obtain ⟨hj1, hj2⟩ := hline
        simp only at hj1 hj2 he hr3 HE hq3
        obtain ⟨pa3, pc3, rfl⟩ := hq3.form
        rw [hlen] at hj2
        have hP : hvV h (.slice pa3 h.want.length pc3) = .agg #[.string (bs h.name), .int .i64 (h.nodes : Int), .int .i64 (h.time : Int), .bool h.arr, .int .i64 (h.lo : Int), .int .i64 (h.hi : Int), .string (bs h.after), .slice pa3 h.want.length pc3, .int .i64 (h.nameAt : Int), .int .i64 (h.nodesAt : Int), .int .i64 (h.timeAt : Int), .int .i64 (h.arrayAt : Int)] := rfl
        rw [hP] at he
        clear hP
        subst he
        clear hr2 ha2 hown2
        go_wp2_with (at_builtin; refine wpList_append_own _ rfl _ _ 57 rfl w.heap.size 64 i0 (.agg (hvC hv0 (.slice none 0 0))) 12 128 Tryz.underlying57 hi hz0 hz1 hz2 rfl (by decide) _ _ _ rfl ((hown3.alloc _).alloc _) ⟨w3.heap.size + 1, 0, none⟩ 1 1 (hvC h (.slice pa3 h.want.length pc3)).toList rfl rfl ?c1 ?c2 ?c3 ?c4 ?c5 ?_)
        case c1 =>
          refine new_cells (t := 64) ?_
          have := whole_new (w3.alloc (.cells (hvC h (.slice pa3 h.want.length pc3)) 64)) (.cells (hvC h (.slice pa3 h.want.length pc3)) 64)
          rw [World.size_alloc] at this; exact this
        case c2 => intro u hu; simp [hvC] at hu; rcases hu with rfl | rfl | rfl | rfl | rfl | rfl | rfl | rfl | rfl | rfl | rfl | rfl <;> rfl
        case c3 => unfold maxLen; omega
        case c4 => omega
        case c5 => have := ha3.size; simp; omega
        intro v4 w4 hown4 hgrow4 _
        have ha4 : Aside b w w4 := ((ha3.alloc _).alloc _).grow hgrow4 (fun k hk => Or.inr (hown3.lt k hk).1)
        have hr4 : Rd b rk3 T j f1 w4 := (hgrow4.block b (by simp; have := hr3.lt; omega) (fun e => by have := (hown3.lt b e.symm).1; omega)).trans (whole_alloc (whole_alloc hr3 _) _)
        replace hown4 : w4.ownsRow w.heap.size 64 12 v4 (xs ++ [(h, Value.slice pa3 h.want.length pc3)]).length (flatH (xs ++ [(h, Value.slice pa3 h.want.length pc3)])) := by
          rw [flatH_snoc]; simpa using hown4
        have HSR4 : Hid (∀ x ∈ xs ++ [(h, Value.slice pa3 h.want.length pc3)], Sr b x.2 x.1.want w4) := by
          intro x hx
          rcases List.mem_append.1 hx with hx | hx
          · exact Sr.grow (((HSR3.out x hx).alloc _).alloc _) ((hown3.alloc _).alloc _) (by decide) hgrow4
          · simp at hx; subst hx
            exact Sr.grow ((hq3.alloc _).alloc _) ((hown3.alloc _).alloc _) (by decide) hgrow4
        have HX4 : Hid ((xs ++ [(h, Value.slice pa3 h.want.length pc3)]).map Prod.fst = hs ++ [h]) := by
          show _ = _
          rw [List.map_append, HX.out]; rfl
        clear hgrow4 hown3 ha3 hr3
        replace hll : (hs ++ [h]).length = hs.length + 1 := by simp
        have hL4 : (hs ++ [h]).length ≤ hs.length + 1 := by omega
        clear hll
        have hxl4 : (hs ++ [h]).length = (xs ++ [(h, Value.slice pa3 h.want.length pc3)]).length := by simp [hxl]
        generalize hs ++ [h] = hs' at *
        generalize xs ++ [(h, Value.slice pa3 h.want.length pc3)] = xs' at *
        go_wp2_with fail
        refine (skip_any b j 10 f1 T _ hr4 hT).mono ?_
        rintro e w5 ⟨rfl, hr5, ha5⟩
        have hown5 := owns_aside hown4 ha5 hb
        have HSR5 : Hid (∀ x ∈ xs', Sr b x.2 x.1.want w5) := fun x hx => (HSR4.out x hx).kept ha5
        replace ha5 := ha4.trans ha5
        clear hr4 ha4 hown4
        cases hs2 : sk T.data.toList 10 (j, f1) with
        | false =>
          rw [skS_no hs2] at hr5
          have HL4 : Hid (hdsL T.data.toList (T.data.toList.length + 1) (0, false) [] = (hs', (j, f1))) := by show _ = _; rw [HL.out, hdsL_no (by rw [HE.out]; exact hs2), HE.out]
          clear HL hs2 HE
          go_wp2_with fail
          go_roundg 1
          case measure => omega
          case rel => exact ⟨j, 0, f1, hs', xs', rk3, hj2, by omega, hxl4, HX4, HSR5, hown5, hr5, ha5, Or.inr ⟨rfl, rfl, HL4⟩⟩
        | true =>
          have hlt := (sk_lt hs2).1
          rw [hlen] at hlt
          simp only at hlt
          rw [skS_yes hs2] at hr5
          have HL4 : Hid (hdsL T.data.toList (T.data.toList.length + 1) (0, false) [] = hdsL T.data.toList m' (j + 1, f1) hs') := by show _ = _; rw [HL.out, hdsL_yes (by rw [HE.out]; exact hs2), HE.out]
          clear HL hs2 HE
          go_wp2_with fail
          go_roundg (T.size - (j + 1) + 2)
          case measure => omega
          case rel => exact ⟨j + 1, m', f1, hs', xs', rk3, hlt, by omega, hxl4, HX4, HSR5, hown5, hr5, ha5, Or.inl ⟨rfl, rfl, by omega, by omega, HL4⟩⟩
    · have r0 := hr1.c0; have r1 := hr1.c1; have r2 := hr1.c2; have z2 := hr1.z 2
      have HR : Hid (hdsR T.data.toList = (hs, (i, f || decide (i < T.size) || hs.isEmpty))) := by
        show _ = _
        unfold hdsR; rw [HL.out, hlen]
      clear HL
      rcases hown.2 with ⟨hv, hn⟩ | ⟨g, cap, cur, hv, hg1, hg2, hg3, hg4, hg5, hg6⟩
      · subst hv
        have hxn : xs = [] := List.eq_nil_of_length_eq_zero hn
        subst hxn
        have hnil : hs = [] := List.eq_nil_of_length_eq_zero hxl
        subst hnil
        have HR2 : Hid (hdsR T.data.toList = ([], (i, true))) := by show _ = _; rw [HR.out]; simp
        clear HR hn hl1
        by_cases hlt : i < T.size
        · have hlt' : (i : Int) < (T.size : Int) := by omega
          go_wp2_with fail
          go_quiet (fail)
          go_wp2_with fail
          go_ret
          rw [HR2.out]
          exact ⟨_, [], rk, rfl, World.ownsRow_nil _ _ _ _, rfl, (fun x hx => by cases hx), (Rd.setFail (w := wr.drewN nq) hr1), (ha1.drewN nq).setCell (Or.inl rfl) _⟩
        · have hlt' : decide ((i : Int) < (T.size : Int)) = false := by simp; omega
          go_wp2_with fail
          go_quiet (fail)
          go_wp2_with fail
          go_ret
          rw [HR2.out]
          exact ⟨_, [], rk, rfl, World.ownsRow_nil _ _ _ _, rfl, (fun x hx => by cases hx), (Rd.setFail (w := wr.drewN nq) hr1), (ha1.drewN nq).setCell (Or.inl rfl) _⟩
      · subst hv
        have hlen9 : (xs.length : Int) ≤ 1000 := by omega
        by_cases hlt : i < T.size
        · have hlt' : (i : Int) < (T.size : Int) := by omega
          have HR2 : Hid (hdsR T.data.toList = (hs, (i, true))) := by show _ = _; rw [HR.out]; simp [hlt]
          clear HR
          go_wp2_with fail
          go_quiet (fail)
          go_wp2_with fail
          go_ret
          rw [HR2.out]
          exact ⟨_, xs, rk, rfl, owns_aside hown (((Aside.refl b wr).drewN nq).setCell (Or.inl rfl) _) hb, HX.out, (fun x hx => (HSR.out x hx).kept (((Aside.refl b wr).drewN nq).setCell (Or.inl rfl) _)), (Rd.setFail (w := wr.drewN nq) hr1), (ha1.drewN nq).setCell (Or.inl rfl) _⟩
        · have hlt' : decide ((i : Int) < (T.size : Int)) = false := by simp; omega
          by_cases he : hs.length = 0
          · have he' : ((xs.length : Int) == 0) = true := by rw [beq_iff_eq]; omega
            have HR2 : Hid (hdsR T.data.toList = (hs, (i, true))) := by show _ = _; rw [HR.out]; simp [List.eq_nil_of_length_eq_zero he]
            clear HR he
            go_wp2_with fail
            go_quiet (fail)
            go_wp2_with fail
            go_ret
            rw [HR2.out]
            exact ⟨_, xs, rk, rfl, owns_aside hown (((Aside.refl b wr).drewN nq).setCell (Or.inl rfl) _) hb, HX.out, (fun x hx => (HSR.out x hx).kept (((Aside.refl b wr).drewN nq).setCell (Or.inl rfl) _)), (Rd.setFail (w := wr.drewN nq) hr1), (ha1.drewN nq).setCell (Or.inl rfl) _⟩
          · have he' : ((xs.length : Int) == 0) = false := by rw [beq_eq_false_iff_ne]; omega
            have HR2 : Hid (hdsR T.data.toList = (hs, (i, f))) := by
              show _ = _; rw [HR.out]
              have : hs.isEmpty = false := by cases hs with
                | nil => simp at he
                | cons a r => rfl
              simp [this, hlt]
            clear HR he
            go_wp2_with fail
            go_quiet (fail)
            go_wp2_with fail
            go_ret
            rw [HR2.out]
            exact ⟨_, xs, rk, rfl, hown, HX.out, HSR.out, hr1.drewN nq, ha1.drewN nq⟩

end Go.Proofs.YtanknpmojblmcaaGreatDoor
