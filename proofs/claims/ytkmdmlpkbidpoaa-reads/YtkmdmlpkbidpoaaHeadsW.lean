/-
  The reader's heads.
-/
import Derived.Test.YtkmdmlpkbidpoaaHeadX
import Derived.Test.YtkmdmlpkbidpoaaSpec4
set_option linter.unusedSimpArgs false
set_option linter.unusedVariables false
namespace Go.Proofs.Ytkmdmlpkbidpoaa
open Go.RowKit

/-- The cells of a list of heads. -/
def flatH (hs : List HV) : List Value := (hs.map fun h => (hvC h).toList).flatten
theorem flatH_snoc (hs : List HV) (h : HV) : flatH (hs ++ [h]) = flatH hs ++ (hvC h).toList := by simp [flatH]

theorem Aside.grownBy {b : Nat} {w w' : World} (h : Aside b w w') : w.grownBy w' (some b) :=
  ⟨h.os, h.tape, h.output, h.size, fun k hk hb => h.block k hk (fun e => hb (by rw [e]))⟩
theorem Aside.grow {b : Nat} {x w w' : World} {row : Option Nat} (h : Aside b x w) (g : w.grownBy w' row) (hr : ∀ k, row = some k → k = b ∨ x.heap.size ≤ k) : Aside b x w' :=
  ⟨g.os.trans h.os, g.tape.trans h.tape, g.output.trans h.output, Nat.le_trans h.size g.size, fun k hk hb =>
    (g.block k (Nat.lt_of_lt_of_le hk h.size) (fun e => by have := hr k e.symm; omega)).trans (h.block k hk hb)⟩
theorem owns_aside {w w' : World} {b base : Nat} {e : TypeId} {size : Nat} {v : Value} {n : Nat} {xs : List Value} (h : w.ownsRow base e size v n xs) (k : Aside b w w') (hb : b < base) : w'.ownsRow base e size v n xs :=
  h.kept k.grownBy (by
    cases hv : v.ownBlock with
    | none => exact Or.inl rfl
    | some g => right; intro he; cases he; have := (h.lt b hv).1; omega)

theorem hdsL_yes {L : List UInt8} {n : Nat} {s : Nat × Bool} {hs : List HV} (h : sk L 10 (lineH L s hs).2 = true) : hdsL L (n + 1) s hs = hdsL L n ((lineH L s hs).2.1 + 1, (lineH L s hs).2.2) (lineH L s hs).1 := by simp [hdsL, h]
theorem hdsL_no {L : List UInt8} {n : Nat} {s : Nat × Bool} {hs : List HV} (h : sk L 10 (lineH L s hs).2 = false) : hdsL L (n + 1) s hs = lineH L s hs := by simp [hdsL, h]

theorem new_cells {y : World} {g : Nat} {c : Array Value} {t : TypeId} (h : y.heap[g]? = some (.cells c t (0, 0))) : ∀ j u, c.toList[j]? = some u → y.cell? ((⟨g, 0, none⟩ : Addr).add j) = some u := by
  intro j u hj
  have e : (⟨g, 0, none⟩ : Addr).add j = ⟨g, j, none⟩ := by unfold Addr.add; split <;> simp_all
  rw [e, whole_cell h]; simpa using hj
theorem infoHead : (Try.prog.info? 44).map (fun i => (i.zero, i.size, i.bytes)) = some (some (.agg (hvC hv0)), 11, 104) := by kernel_rfl

set_option maxHeartbeats 2000000 in
theorem heads_any (b : Nat) (T : ByteArray) (w : World) (hr : Rd b T 0 false w) (hT : T.size ≤ 600) :
    Calls Try.prog 13 #[.pointer (some ⟨b, 0, none⟩)] w fun e w' => ∃ v, e = .returned v ∧ w'.ownsRow w.heap.size 44 11 v (hdsR T.data.toList).1.length (flatH (hdsR T.data.toList).1) ∧ Rd b T (hdsR T.data.toList).2.1 (hdsR T.data.toList).2.2 w' ∧ Aside b w w' := by
  obtain ⟨i0, hi, hz0, hz1, hz2⟩ := info_parts infoHead
  have hlen : T.data.toList.length = T.size := by simp
  have hb := hr.lt
  go_enter Try.func13, Try.ntmps13
  go_wp2_with fail
  go_loopg [3, 4] (T.size + 2) (fun g v more wr => ∃ (i m : Nat) (f : Bool) (hs : List HV), i ≤ T.size ∧ hs.length ≤ i + 1 ∧ wr.ownsRow w.heap.size 44 11 v hs.length (flatH hs) ∧ Rd b T i f wr ∧ Aside b w wr ∧ ((more = .bool true ∧ g = T.size - i + 2 ∧ hs.length ≤ i ∧ T.size - i < m ∧ Hid (hdsL T.data.toList (T.data.toList.length + 1) (0, false) [] = hdsL T.data.toList m (i, f) hs)) ∨ (more = .bool false ∧ g = 1 ∧ Hid (hdsL T.data.toList (T.data.toList.length + 1) (0, false) [] = (hs, (i, f))))))
  case atStart => exact ⟨0, T.data.toList.length + 1, false, [], by omega, by simp, World.ownsRow_nil _ _ _ _, hr, Aside.refl b w, Or.inl ⟨rfl, rfl, by simp, by omega, rfl⟩⟩
  case round =>
    obtain ⟨i, m, f, hs, hi1, hl1, hown, hr1, ha1, (⟨rfl, rfl, hl2, hm, HL⟩ | ⟨rfl, rfl, HL⟩)⟩ := hrel
    · go_wp2_with fail
      refine (seesHead_any b i f T _ hr1 hT hi1).mono ?_
      rintro e w2 ⟨rfl, n2, hw2⟩
      have hr2 : Rd b T i f w2 := by rw [hw2]; exact hr1.drewN n2
      have ha2 : Aside b wr w2 := by rw [hw2]; exact (Aside.refl b wr).drewN n2
      have hown2 := owns_aside hown ha2 hb
      replace ha2 := ha1.trans ha2
      clear hw2 hr1 ha1 hown
      obtain ⟨m', rfl⟩ : ∃ m', m = m' + 1 := ⟨m - 1, by omega⟩
      have hline := lineH_goes T.data.toList (i, f) hs (by rw [hlen]; exact hi1)
      have hll := lineH_len T.data.toList (i, f) hs
      cases hs1 : seesB T.data.toList i with
      | false =>
        have HE : Hid (lineH T.data.toList (i, f) hs = (hs, (toNl T.data.toList i, f))) := by show _ = _; simp [lineH, hs1]
        clear hs1
        go_wp2_with fail
        refine (command_any b i f T _ hr2 hT hi1).mono ?_
        rintro e w3 ⟨rfl, hr3, ha3⟩
        have hown3 := owns_aside hown2 ha3 hb
        replace ha3 := ha2.trans ha3
        rw [HE.out] at hline hll
        have HL2 := HL.out
        generalize toNl T.data.toList i = j at *
        obtain ⟨hj1, hj2⟩ := hline
        simp only at hj1 hj2
        rw [hlen] at hj2
        clear hr2 ha2 hown2
        have HL3 : Hid _ := HL2
        clear HL2 HL
        go_wp2_with fail
        refine (skip_any b j 10 f T _ hr3 hT).mono ?_
        rintro e w4 ⟨rfl, hr4, ha4⟩
        have hown4 := owns_aside hown3 ha4 hb
        replace ha4 := ha3.trans ha4
        clear hr3 ha3 hown3
        cases hs2 : sk T.data.toList 10 (j, f) with
        | false =>
          rw [skS_no hs2] at hr4
          have HL4 : Hid (hdsL T.data.toList (T.data.toList.length + 1) (0, false) [] = (hs, (j, f))) := by show _ = _; rw [HL3.out, hdsL_no (by rw [HE.out]; exact hs2), HE.out]
          clear HL3 hs2 HE
          go_wp2_with fail
          go_roundg 1
          case measure => omega
          case rel => exact ⟨j, 0, f, hs, hj2, by omega, hown4, hr4, ha4, Or.inr ⟨rfl, rfl, HL4⟩⟩
        | true =>
          have hlt := (sk_lt hs2).1
          rw [hlen] at hlt
          simp only at hlt
          rw [skS_yes hs2] at hr4
          have HL4 : Hid (hdsL T.data.toList (T.data.toList.length + 1) (0, false) [] = hdsL T.data.toList m' (j + 1, f) hs) := by show _ = _; rw [HL3.out, hdsL_yes (by rw [HE.out]; exact hs2), HE.out]
          clear HL3 hs2 HE
          go_wp2_with fail
          go_roundg (T.size - (j + 1) + 2)
          case measure => omega
          case rel => exact ⟨j + 1, m', f, hs, hlt, by omega, hown4, hr4, ha4, Or.inl ⟨rfl, rfl, by omega, by omega, HL4⟩⟩
      | true =>
        have HE : Hid (lineH T.data.toList (i, f) hs = (hs ++ [(headH T.data.toList (i, f)).1], (headH T.data.toList (i, f)).2)) := by show _ = _; simp [lineH, hs1]
        clear hs1
        go_wp2_with fail
        refine (head_any b i f T _ hr2 hT hi1).mono ?_
        rintro e w3 ⟨he, hr3, ha3⟩
        have hown3 := owns_aside hown2 ha3 hb
        replace ha3 := ha2.trans ha3
        rw [HE.out] at hline hll
        generalize headH T.data.toList (i, f) = r at *
        obtain ⟨h, j, f1⟩ := r
        obtain ⟨hj1, hj2⟩ := hline
        simp only at hj1 hj2 he hr3 HE
        rw [hlen] at hj2
        have hP : hvV h = .agg #[.string (bs h.name), .int .i64 (h.nodes : Int), .int .i64 (h.time : Int), .bool h.arr, .int .i64 (h.lo : Int), .int .i64 (h.hi : Int), .string (bs h.after), .int .i64 (h.nameAt : Int), .int .i64 (h.nodesAt : Int), .int .i64 (h.timeAt : Int), .int .i64 (h.arrayAt : Int)] := rfl
        rw [hP] at he
        clear hP
        subst he
        clear hr2 ha2 hown2
        go_wp2_with (at_builtin; refine wpList_append_own _ rfl _ _ 40 rfl w.heap.size 44 i0 (.agg (hvC hv0)) 11 104 Try.underlying40 hi hz0 hz1 hz2 rfl (by decide) _ _ _ rfl ((hown3.alloc _).alloc _) ⟨w3.heap.size + 1, 0, none⟩ 1 1 (hvC h).toList rfl rfl ?c1 ?c2 ?c3 ?c4 ?c5 ?_)
        case c1 =>
          refine new_cells (t := 44) ?_
          have := whole_new (w3.alloc (.cells (hvC h) 44)) (.cells (hvC h) 44)
          rw [World.size_alloc] at this; exact this
        case c2 => intro u hu; simp [hvC] at hu; rcases hu with rfl | rfl | rfl | rfl | rfl | rfl | rfl | rfl | rfl | rfl | rfl <;> rfl
        case c3 => unfold maxLen; omega
        case c4 => omega
        case c5 => have := ha3.size; simp; omega
        intro v4 w4 hown4 hgrow4 _
        have ha4 : Aside b w w4 := ((ha3.alloc _).alloc _).grow hgrow4 (fun k hk => Or.inr (hown3.lt k hk).1)
        have hr4 : Rd b T j f1 w4 := (hgrow4.block b (by simp; have := hr3.lt; omega) (fun e => by have := (hown3.lt b e.symm).1; omega)).trans (whole_alloc (whole_alloc hr3 _) _)
        rw [← flatH_snoc] at hown4
        replace hown4 : w4.ownsRow w.heap.size 44 11 v4 (hs ++ [h]).length (flatH (hs ++ [h])) := by simpa using hown4
        clear hgrow4 hown3 ha3 hr3
        replace hll : (hs ++ [h]).length = hs.length + 1 := by simp
        have hL4 : (hs ++ [h]).length ≤ hs.length + 1 := by omega
        clear hll
        generalize hs ++ [h] = hs' at *
        go_wp2_with fail
        refine (skip_any b j 10 f1 T _ hr4 hT).mono ?_
        rintro e w5 ⟨rfl, hr5, ha5⟩
        have hown5 := owns_aside hown4 ha5 hb
        replace ha5 := ha4.trans ha5
        clear hr4 ha4 hown4
        cases hs2 : sk T.data.toList 10 (j, f1) with
        | false =>
          rw [skS_no hs2] at hr5
          have HL4 : Hid (hdsL T.data.toList (T.data.toList.length + 1) (0, false) [] = (hs', (j, f1))) := by show _ = _; rw [HL.out, hdsL_no (by rw [HE.out]; exact hs2), HE.out]
          clear HL hs2 HE
          go_wp2_with fail
          go_roundg 1
          case measure => omega
          case rel => exact ⟨j, 0, f1, hs', hj2, by omega, hown5, hr5, ha5, Or.inr ⟨rfl, rfl, HL4⟩⟩
        | true =>
          have hlt := (sk_lt hs2).1
          rw [hlen] at hlt
          simp only at hlt
          rw [skS_yes hs2] at hr5
          have HL4 : Hid (hdsL T.data.toList (T.data.toList.length + 1) (0, false) [] = hdsL T.data.toList m' (j + 1, f1) hs') := by show _ = _; rw [HL.out, hdsL_yes (by rw [HE.out]; exact hs2), HE.out]
          clear HL hs2 HE
          go_wp2_with fail
          go_roundg (T.size - (j + 1) + 2)
          case measure => omega
          case rel => exact ⟨j + 1, m', f1, hs', hlt, by omega, hown5, hr5, ha5, Or.inl ⟨rfl, rfl, by omega, by omega, HL4⟩⟩
    · have r0 := hr1.c0; have r1 := hr1.c1; have r2 := hr1.c2; have z2 := hr1.z 2
      have HR : Hid (hdsR T.data.toList = (hs, (i, f || decide (i < T.size) || hs.isEmpty))) := by
        show _ = _
        unfold hdsR; rw [HL.out, hlen]
      clear HL
      rcases hown.2 with ⟨hv, hn⟩ | ⟨g, cap, cur, hv, hg1, hg2, hg3, hg4, hg5, hg6⟩
      · subst hv
        have hnil : hs = [] := List.eq_nil_of_length_eq_zero hn
        subst hnil
        have HR2 : Hid (hdsR T.data.toList = ([], (i, true))) := by show _ = _; rw [HR.out]; simp
        clear HR hn hl1
        by_cases hlt : i < T.size
        · have hlt' : (i : Int) < (T.size : Int) := by omega
          go_wp2_with fail
          go_quiet (fail)
          go_wp2_with fail
          go_ret
          rw [HR2.out]
          exact ⟨_, rfl, World.ownsRow_nil _ _ _ _, (Rd.setFail (w := wr.drewN nq) hr1), (ha1.drewN nq).setCell (Or.inl rfl) _⟩
        · have hlt' : decide ((i : Int) < (T.size : Int)) = false := by simp; omega
          go_wp2_with fail
          go_quiet (fail)
          go_wp2_with fail
          go_ret
          rw [HR2.out]
          exact ⟨_, rfl, World.ownsRow_nil _ _ _ _, (Rd.setFail (w := wr.drewN nq) hr1), (ha1.drewN nq).setCell (Or.inl rfl) _⟩
      · subst hv
        have hlen9 : (hs.length : Int) ≤ 1000 := by omega
        by_cases hlt : i < T.size
        · have hlt' : (i : Int) < (T.size : Int) := by omega
          have HR2 : Hid (hdsR T.data.toList = (hs, (i, true))) := by show _ = _; rw [HR.out]; simp [hlt]
          clear HR
          go_wp2_with fail
          go_quiet (fail)
          go_wp2_with fail
          go_ret
          rw [HR2.out]
          exact ⟨_, rfl, owns_aside hown (((Aside.refl b wr).drewN nq).setCell (Or.inl rfl) _) hb, (Rd.setFail (w := wr.drewN nq) hr1), (ha1.drewN nq).setCell (Or.inl rfl) _⟩
        · have hlt' : decide ((i : Int) < (T.size : Int)) = false := by simp; omega
          by_cases he : hs.length = 0
          · have he' : ((hs.length : Int) == 0) = true := by rw [beq_iff_eq]; omega
            have HR2 : Hid (hdsR T.data.toList = (hs, (i, true))) := by show _ = _; rw [HR.out]; simp [List.eq_nil_of_length_eq_zero he]
            clear HR he
            go_wp2_with fail
            go_quiet (fail)
            go_wp2_with fail
            go_ret
            rw [HR2.out]
            exact ⟨_, rfl, owns_aside hown (((Aside.refl b wr).drewN nq).setCell (Or.inl rfl) _) hb, (Rd.setFail (w := wr.drewN nq) hr1), (ha1.drewN nq).setCell (Or.inl rfl) _⟩
          · have he' : ((hs.length : Int) == 0) = false := by rw [beq_eq_false_iff_ne]; omega
            have HR2 : Hid (hdsR T.data.toList = (hs, (i, f))) := by
              show _ = _; rw [HR.out]
              have : hs.isEmpty = false := by cases hs with
                | nil => simp at he
                | cons a r => rfl
              simp [this, hlt]
            clear HR he
            go_wp2_with fail
            go_quiet (fail)
            go_wp2_with fail
            go_ret
            rw [HR2.out]
            exact ⟨_, rfl, hown, hr1.drewN nq, ha1.drewN nq⟩

end Go.Proofs.Ytkmdmlpkbidpoaa
