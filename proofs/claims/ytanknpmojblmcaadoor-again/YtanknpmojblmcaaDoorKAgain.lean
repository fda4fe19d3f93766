/-
  Again: two batches that are made are read as they were written.
-/
import Derived.Test.YtanknpmojblmcaaDoorKBatch
import Derived.Test.YtanknpmojblmcaaDoorKFace
set_option linter.unusedSimpArgs false
set_option linter.unusedVariables false
namespace Go.Proofs.YtanknpmojblmcaaDoor
open Go.RowKit

theorem row_form {w : World} {base : Nat} {e : TypeId} {size : Nat} {v : Value} {n : Nat} {xs : List Value} (h : w.ownsRow base e size v n xs) : ∃ a c, v = .slice a n c := by
  rcases h.2 with ⟨rfl, rfl⟩ | ⟨g, cap, cur, rfl, _⟩
  · exact ⟨_, _, rfl⟩
  · exact ⟨_, _, rfl⟩

theorem jobOK_le {j : JV} (h : JobOK j) : j.nodes ≤ 12 ∧ j.time ≤ 12 ∧ j.lo ≤ 12 ∧ j.hi ≤ 12 := by
  have h1 := h.nodes; have h2 := h.time
  cases e : j.arr
  · obtain ⟨h3, h4⟩ := h.no e
    omega
  · obtain ⟨h3, h4, h5⟩ := h.arr e
    omega

attribute [local go_sem ↓] Go.wp_at_zero Go.wp_at_succ
set_option maxRecDepth 100000 in
set_option maxHeartbeats 4000000 in
theorem Again_walk (T M : ByteArray) (w : World) (hT : T.size ≤ maxLen) (hM : M.size ≤ maxLen) :
    Calls Tryd.prog 3 #[.string T, .string M] w fun e w' => e = .returned (.bool true) ∧ Below w.heap.size w w' := by
  go_enter Tryd.func3, Tryd.ntmps3
  go_wp2_with fail
  have hB0 : Bk w.heap.size (.slice none 0 0) 0 0 (w.alloc (.cells #[.slice none 0 0, .int .i64 0, .int .i64 0] 25)) := whole_new w _
  have hW0 : Below w.heap.size w (w.alloc (.cells #[.slice none 0 0, .int .i64 0, .int .i64 0] 25)) := (Below.refl _ w).alloc (Nat.le_refl _) _
  generalize w.alloc (.cells #[.slice none 0 0, .int .i64 0, .int .i64 0] 25) = x0 at *
  obtain ⟨b, hb⟩ : ∃ b, b = w.heap.size := ⟨_, rfl⟩
  rw [← hb] at hB0 hW0 ⊢
  have HBW : Hid (b = w.heap.size) := hb
  clear hb
  go_loopg [0, 6] 3 (fun r sv x wr => ∃ (k : Nat) (R : ByteArray) (v : Value) (bn bj : Nat) (ms : List MV), k ≤ 2 ∧ r = 3 - k ∧ x = .int .i64 (k : Int) ∧ sv = .string R ∧ R.size ≤ maxLen ∧ bn = k ∧ bj ≤ 18 * k ∧ ms.length ≤ 3 * k ∧ Hid (∀ y ∈ ms, GoodM y) ∧ Bk b v bn bj wr ∧ wr.ownsRow (b + 1) 35 12 v ms.length (flatM ms) ∧ Below b w wr)
  case atStart => exact ⟨0, T, .slice none 0 0, 0, 0, [], by omega, rfl, rfl, rfl, hT, rfl, by omega, by simp, (fun y hy => by cases hy), hB0, World.ownsRow_nil _ _ _ _, hW0⟩
  case round =>
    obtain ⟨k, R, v, bn, bj, ms, hk, rfl, rfl, rfl, hR, hbk, hbj, hms, HG, hB, hMs, hW⟩ := hrel
    by_cases hlt : k < 2
    · have hlt' : (k : Int) < 2 := by omega
      obtain ⟨va, vc, rfl⟩ := row_form hMs
      have b0 := hB.c 0
      simp at b0
      go_wp2_with fail
      refine (batchB_any b _ bn bj ms R _ hB hMs hR (by omega) HG.out (by omega) (by omega)).mono ?_
      rintro e x1 ⟨S, v', ns, js, bj', rfl, hn1, hn3, hbj', hlen, rd1, rd2, hSl, _, hgd, hrm, hB1, hM1, hW1⟩
      replace hW1 := hW.trans hW1
      have HR : Hid (∀ q (h1 : q < ns.length) (h2 : q < js.length), RM ns[q] js[q]) := hrm
      have HG1 : Hid (∀ y ∈ ms ++ ns, GoodM y) := by
        intro y hy
        rcases List.mem_append.1 hy with hy | hy
        · exact HG.out y hy
        · exact hgd y hy
      have HGN : Hid (∀ y ∈ ns, GoodM y) := hgd
      have hln : (ms ++ ns).length = ms.length + ns.length := by simp
      clear hrm HG hgd hB hMs hW b0
      go_wp2_with fail
      have hS5 := bs_size S
      refine (Read_any (bs S) _ (by unfold maxLen; omega)).mono ?_
      rintro e x2 ⟨u, rfl, hown, hB2⟩
      rw [bs_list, rd1] at hown
      rw [bs_list, rd2]
      clear rd1 rd2
      have hJs := Js.of hown
      obtain ⟨ua, uc, rfl⟩ := row_form hown
      have hM2 := owns_below hM1 hB2
      have hB2k : Bk b v' (bn + 1) bj' x2 := (hB2.block b hB1.lt).trans hB1
      have hW2 : Below b w x2 := hW1.trans (hB2.mono (Nat.le_of_lt hB1.lt))
      clear hown hB1 hM1 hW1 hB2
      obtain ⟨va1, vc1, rfl⟩ := row_form hM2
      have b0 := hB2k.c 0
      simp at b0
      have el : ((js.length : Int) != ((ms ++ ns).length : Int) - (ms.length : Int)) = false := by rw [bne_eq_false_iff_eq]; omega
      have el2 : ((js.length : Int) != (ms.length : Int) + (ns.length : Int) - (ms.length : Int)) = false := by rw [bne_eq_false_iff_eq]; omega
      have el3 : ((js.length : Int) != (ms.length : Int) + (js.length : Int) - (ms.length : Int)) = false := by rw [bne_eq_false_iff_eq]; omega
      have hmsI : (ms.length : Int) ≤ 6 := by omega
      have hnsI : (ns.length : Int) ≤ 3 := by omega
      have hMx := Ms.of hM2
      go_wp2_with fail
      have HBW3 : Hid (Below b w x2) := hW2
      rcases hMx with ⟨_, hq⟩ | ⟨g, cap, hq, hcap, hg, hcell⟩
      · exfalso
        rw [(List.append_eq_nil_iff.1 hq).2] at hn1
        simp at hn1
      cases hq
      rcases hJs with ⟨_, hq⟩ | ⟨ug, ucap, hq, hucap, hugl, hjcell⟩
      · exfalso
        have hj0 : js.length = 0 := by rw [hq]; rfl
        omega
      cases hq
      have HC : Hid _ := hcell
      have HJC : Hid _ := hjcell
      clear hcell hjcell
      have hjI : (js.length : Int) ≤ 3 := by omega
      go_loopg [12] (js.length + 1) (fun r x wr => ∃ (i : Nat) (wz : World), wz = wr ∧ i ≤ js.length ∧ r = js.length - i + 1 ∧ x = .int .i64 (i : Int) ∧ Below x2.heap.size x2 wz)
      case atStart => exact ⟨0, _, rfl, Nat.zero_le _, rfl, rfl, Below.refl _ _⟩
      case round =>
        obtain ⟨i, wz, rfl, hi, rfl, rfl, hBz⟩ := hrel
        have c0 : wz.cell? ⟨b, 0, none⟩ = _ := (hBz.cell hB2k.lt).trans b0
        by_cases hli : i < js.length
        · have hli' : (i : Int) < (js.length : Int) := by omega
          have hin : i < ns.length := by omega
          have hkm : ms.length + i < (ms ++ ns).length := by simp; omega
          have ems : (ms ++ ns)[ms.length + i] = ns[i] := by
            rw [List.getElem_append_right (by omega)]
            simp
          obtain ⟨ki, hki⟩ : ∃ ki : Nat, ki = ms.length + i := ⟨_, rfl⟩
          have eki : (ms.length : Int) + (i : Int) = (ki : Int) := by omega
          have hkl : ki < (ms ++ ns).length := by omega
          have hcl : ∀ j, j < 12 → wz.cell? ⟨g, ki * 12 + j, none⟩ = (mvC ns[i])[j]? := by
            intro j hj
            subst hki
            rw [← ems]
            exact (hBz.cell hg).trans (HC.out (ms.length + i) hkm j hj)
          have hkI : (ki : Int) < ((ms ++ ns).length : Int) := by omega
          have hkI2 : (ki : Int) < (ms.length : Int) + (ns.length : Int) := by omega
          clear hki ems hkm
          have hjl : ∀ j, j < 7 → wz.cell? ⟨ug, i * 7 + j, none⟩ = (jvC js[i])[j]? := fun j hj => (hBz.cell hugl).trans (HJC.out i hli j hj)
          have hrm := HR.out i hin hli
          have hgm := HGN.out ns[i] (List.getElem_mem hin)
          generalize ns[i] = m at *
          generalize js[i] = jj at *
          have HAG := rm_again hgm hrm
          obtain ⟨P, rfl, hpl⟩ := hrm
          have l0 := hcl 0 (by omega); have l1 := hcl 1 (by omega); have l2 := hcl 2 (by omega); have l3 := hcl 3 (by omega); have l4 := hcl 4 (by omega); have l5 := hcl 5 (by omega); have l6 := hcl 6 (by omega); have l7 := hcl 7 (by omega); have l8 := hcl 8 (by omega); have l9 := hcl 9 (by omega); have l10 := hcl 10 (by omega); have l11 := hcl 11 (by omega)
          have a0 := hjl 0 (by omega); have a1 := hjl 1 (by omega); have a2 := hjl 2 (by omega); have a3 := hjl 3 (by omega); have a4 := hjl 4 (by omega); have a5 := hjl 5 (by omega); have a6 := hjl 6 (by omega)
          simp [mvC] at l0 l1 l2 l3 l4 l5 l6 l7 l8 l9 l10 l11
          simp [jvC] at a0 a1 a2 a3 a4 a5 a6
          have HAG2 : Hid ((m.want = [] ∧ P = []) ∨ (m.want ≠ [] ∧ P ≠ [] ∧ AgainOK { m.job with after := P } m.want)) := HAG
          have hPl : P.length ≤ 200 ∧ m.want.length ≤ 200 := by
            rcases hpl with ⟨q1, q2⟩ | ⟨q1, q2, q3, q4, q5⟩
            · rw [q1, q2]; simp
            · have := (plain_stable 2 m.want.length m.want (P, q4) (Nat.le_refl _) q5).2
              have this : P.length ≤ m.want.length := this
              omega
          have HJK : Hid (JobOK m.job) := hgm.1
          clear hcl hjl HAG hpl hgm
          go_wp2_with fail
          have Y := whole_new wz (.cells #[.int .i64 (m.batch : Int), .string (bs m.job.name), .int .i64 (m.job.nodes : Int), .int .i64 (m.job.time : Int), .bool m.job.arr, .int .i64 (m.job.lo : Int), .int .i64 (m.job.hi : Int), .string (bs m.job.after), .int .i64 (m.first : Int), .int .i64 (m.count : Int), .string (bs m.want), .slice m.pa m.pn m.pc] 35 (0, 0))
          have hz0 := hBz.alloc hBz.size (.cells #[.int .i64 (m.batch : Int), .string (bs m.job.name), .int .i64 (m.job.nodes : Int), .int .i64 (m.job.time : Int), .bool m.job.arr, .int .i64 (m.job.lo : Int), .int .i64 (m.job.hi : Int), .string (bs m.job.after), .int .i64 (m.first : Int), .int .i64 (m.count : Int), .string (bs m.want), .slice m.pa m.pn m.pc] 35)
          have hugz : ug < wz.heap.size := Nat.lt_of_lt_of_le hugl hBz.size
          replace a0 := (Below.heap_alloc wz (.cells #[.int .i64 (m.batch : Int), .string (bs m.job.name), .int .i64 (m.job.nodes : Int), .int .i64 (m.job.time : Int), .bool m.job.arr, .int .i64 (m.job.lo : Int), .int .i64 (m.job.hi : Int), .string (bs m.job.after), .int .i64 (m.first : Int), .int .i64 (m.count : Int), .string (bs m.want), .slice m.pa m.pn m.pc] 35) ug hugz |> fun q => World.cell?_of_block (a := ⟨ug, i * 7, none⟩) q).trans a0
          replace a1 := (World.cell?_of_block (a := ⟨ug, i * 7 + 1, none⟩) (Below.heap_alloc wz (.cells #[.int .i64 (m.batch : Int), .string (bs m.job.name), .int .i64 (m.job.nodes : Int), .int .i64 (m.job.time : Int), .bool m.job.arr, .int .i64 (m.job.lo : Int), .int .i64 (m.job.hi : Int), .string (bs m.job.after), .int .i64 (m.first : Int), .int .i64 (m.count : Int), .string (bs m.want), .slice m.pa m.pn m.pc] 35) ug hugz)).trans a1
          replace a2 := (World.cell?_of_block (a := ⟨ug, i * 7 + 2, none⟩) (Below.heap_alloc wz (.cells #[.int .i64 (m.batch : Int), .string (bs m.job.name), .int .i64 (m.job.nodes : Int), .int .i64 (m.job.time : Int), .bool m.job.arr, .int .i64 (m.job.lo : Int), .int .i64 (m.job.hi : Int), .string (bs m.job.after), .int .i64 (m.first : Int), .int .i64 (m.count : Int), .string (bs m.want), .slice m.pa m.pn m.pc] 35) ug hugz)).trans a2
          replace a3 := (World.cell?_of_block (a := ⟨ug, i * 7 + 3, none⟩) (Below.heap_alloc wz (.cells #[.int .i64 (m.batch : Int), .string (bs m.job.name), .int .i64 (m.job.nodes : Int), .int .i64 (m.job.time : Int), .bool m.job.arr, .int .i64 (m.job.lo : Int), .int .i64 (m.job.hi : Int), .string (bs m.job.after), .int .i64 (m.first : Int), .int .i64 (m.count : Int), .string (bs m.want), .slice m.pa m.pn m.pc] 35) ug hugz)).trans a3
          replace a4 := (World.cell?_of_block (a := ⟨ug, i * 7 + 4, none⟩) (Below.heap_alloc wz (.cells #[.int .i64 (m.batch : Int), .string (bs m.job.name), .int .i64 (m.job.nodes : Int), .int .i64 (m.job.time : Int), .bool m.job.arr, .int .i64 (m.job.lo : Int), .int .i64 (m.job.hi : Int), .string (bs m.job.after), .int .i64 (m.first : Int), .int .i64 (m.count : Int), .string (bs m.want), .slice m.pa m.pn m.pc] 35) ug hugz)).trans a4
          replace a5 := (World.cell?_of_block (a := ⟨ug, i * 7 + 5, none⟩) (Below.heap_alloc wz (.cells #[.int .i64 (m.batch : Int), .string (bs m.job.name), .int .i64 (m.job.nodes : Int), .int .i64 (m.job.time : Int), .bool m.job.arr, .int .i64 (m.job.lo : Int), .int .i64 (m.job.hi : Int), .string (bs m.job.after), .int .i64 (m.first : Int), .int .i64 (m.count : Int), .string (bs m.want), .slice m.pa m.pn m.pc] 35) ug hugz)).trans a5
          replace a6 := (World.cell?_of_block (a := ⟨ug, i * 7 + 6, none⟩) (Below.heap_alloc wz (.cells #[.int .i64 (m.batch : Int), .string (bs m.job.name), .int .i64 (m.job.nodes : Int), .int .i64 (m.job.time : Int), .bool m.job.arr, .int .i64 (m.job.lo : Int), .int .i64 (m.job.hi : Int), .string (bs m.job.after), .int .i64 (m.first : Int), .int .i64 (m.count : Int), .string (bs m.want), .slice m.pa m.pn m.pc] 35) ug hugz)).trans a6
          have hug : ug < (wz.alloc (.cells #[.int .i64 (m.batch : Int), .string (bs m.job.name), .int .i64 (m.job.nodes : Int), .int .i64 (m.job.time : Int), .bool m.job.arr, .int .i64 (m.job.lo : Int), .int .i64 (m.job.hi : Int), .string (bs m.job.after), .int .i64 (m.first : Int), .int .i64 (m.count : Int), .string (bs m.want), .slice m.pa m.pn m.pc] 35)).heap.size := by simp; omega
          have hhb := whole_lt Y
          clear l0 l1 l2 l3 l4 l5 l6 l7 l8 l9 l10 l11 c0
          generalize hhbe : wz.heap.size = hb at *
          clear hhbe
          generalize wz.alloc (.cells #[.int .i64 (m.batch : Int), .string (bs m.job.name), .int .i64 (m.job.nodes : Int), .int .i64 (m.job.time : Int), .bool m.job.arr, .int .i64 (m.job.lo : Int), .int .i64 (m.job.hi : Int), .string (bs m.job.after), .int .i64 (m.first : Int), .int .i64 (m.count : Int), .string (bs m.want), .slice m.pa m.pn m.pc] 35) = z at *
          have h1 := whole_cell Y 1; have h2 := whole_cell Y 2; have h3 := whole_cell Y 3; have h4 := whole_cell Y 4; have h5 := whole_cell Y 5; have h6 := whole_cell Y 6; have h7 := whole_cell Y 7; have h10 := whole_cell Y 10
          simp at h1 h2 h3 h4 h5 h6 h7 h10
          go_region_held3 (fun w' => Below z.heap.size z w' ∧ w'.cell? ⟨ug, i * 7, none⟩ = some (.string (bs m.job.name)) ∧ w'.cell? ⟨ug, i * 7 + 1, none⟩ = some (.int .i64 (m.job.nodes : Int)) ∧ w'.cell? ⟨ug, i * 7 + 2, none⟩ = some (.int .i64 (m.job.time : Int)) ∧ w'.cell? ⟨ug, i * 7 + 3, none⟩ = some (.bool m.job.arr) ∧ w'.cell? ⟨ug, i * 7 + 4, none⟩ = some (.int .i64 (m.job.lo : Int)) ∧ w'.cell? ⟨ug, i * 7 + 5, none⟩ = some (.int .i64 (m.job.hi : Int)) ∧ w'.cell? ⟨ug, i * 7 + 6, none⟩ = some (.string (bs P)) ∧ w'.cell? ⟨hb, 1, none⟩ = some (.string (bs m.job.name)) ∧ w'.cell? ⟨hb, 2, none⟩ = some (.int .i64 (m.job.nodes : Int)) ∧ w'.cell? ⟨hb, 3, none⟩ = some (.int .i64 (m.job.time : Int)) ∧ w'.cell? ⟨hb, 4, none⟩ = some (.bool m.job.arr) ∧ w'.cell? ⟨hb, 5, none⟩ = some (.int .i64 (m.job.lo : Int)) ∧ w'.cell? ⟨hb, 6, none⟩ = some (.int .i64 (m.job.hi : Int)) ∧ w'.cell? ⟨hb, 7, none⟩ = some (.string (bs m.job.after)))
            (first | exact ⟨(Below.refl _ z).drew, a0, a1, a2, a3, a4, a5, a6, h1, h2, h3, h4, h5, h6, h7⟩ | exact ⟨(Below.refl _ z).drew.trans hBx, (hBx.cell (w := z.drew) hug).trans a0, (hBx.cell (w := z.drew) hug).trans a1, (hBx.cell (w := z.drew) hug).trans a2, (hBx.cell (w := z.drew) hug).trans a3, (hBx.cell (w := z.drew) hug).trans a4, (hBx.cell (w := z.drew) hug).trans a5, (hBx.cell (w := z.drew) hug).trans a6, (hBx.cell (w := z.drew) hhb).trans h1, (hBx.cell (w := z.drew) hhb).trans h2, (hBx.cell (w := z.drew) hhb).trans h3, (hBx.cell (w := z.drew) hhb).trans h4, (hBx.cell (w := z.drew) hhb).trans h5, (hBx.cell (w := z.drew) hhb).trans h6, (hBx.cell (w := z.drew) hhb).trans h7⟩)
            (first
              | (go_at_call 6; refine (sameFace_eq m.job P m.job.after _).mono ?_; rintro e w' ⟨rfl, hBx⟩))
          all_goals
            rename_i hHeld
            obtain ⟨hz1, a0, a1, a2, a3, a4, a5, a6, g1, g2, g3, g4, g5, g6, g7⟩ := hHeld
            replace h10 := (hz1.cell hhb).trans h10
            obtain ⟨z2, hz2⟩ : ∃ z2, z2 = w' := ⟨_, rfl⟩
            subst hz2
            have hug2 : ug < z2.heap.size := Nat.lt_of_lt_of_le hug hz1.size
            have hhb2 : hb < z2.heap.size := Nat.lt_of_lt_of_le hhb hz1.size
            have hzz : Below x2.heap.size x2 z2 := hz0.trans (hz1.mono hz0.size)
            clear hBx g1 g2 g3 g4 g5 g6 g7 h1 h2 h3 h4 h5 h6 h7 Y hz0 hz1 hug hhb hugz
            go_wp2_with fail
            go_region_held3 (fun w' => Below z2.heap.size z2 w' ∧ w'.cell? ⟨ug, i * 7, none⟩ = some (.string (bs m.job.name)) ∧ w'.cell? ⟨ug, i * 7 + 1, none⟩ = some (.int .i64 (m.job.nodes : Int)) ∧ w'.cell? ⟨ug, i * 7 + 2, none⟩ = some (.int .i64 (m.job.time : Int)) ∧ w'.cell? ⟨ug, i * 7 + 3, none⟩ = some (.bool m.job.arr) ∧ w'.cell? ⟨ug, i * 7 + 4, none⟩ = some (.int .i64 (m.job.lo : Int)) ∧ w'.cell? ⟨ug, i * 7 + 5, none⟩ = some (.int .i64 (m.job.hi : Int)) ∧ w'.cell? ⟨ug, i * 7 + 6, none⟩ = some (.string (bs P)) ∧ w'.cell? ⟨hb, 10, none⟩ = some (.string (bs m.want)))
              (first | exact ⟨(Below.refl _ z2).drew, a0, a1, a2, a3, a4, a5, a6, h10⟩ | exact ⟨(Below.refl _ z2).drew.trans hBx, (hBx.cell (w := z2.drew) hug2).trans a0, (hBx.cell (w := z2.drew) hug2).trans a1, (hBx.cell (w := z2.drew) hug2).trans a2, (hBx.cell (w := z2.drew) hug2).trans a3, (hBx.cell (w := z2.drew) hug2).trans a4, (hBx.cell (w := z2.drew) hug2).trans a5, (hBx.cell (w := z2.drew) hug2).trans a6, (hBx.cell (w := z2.drew) hhb2).trans h10⟩)
              (first
                | (go_at_call 7; refine (again_eq { m.job with after := P } m.want _ (jobOK_le HJK.out).1 (jobOK_le HJK.out).2.1 (jobOK_le HJK.out).2.2.1 (jobOK_le HJK.out).2.2.2 (by have := HJK.out.nm6; show m.job.name.length ≤ 10; omega) (by show P.length ≤ 900; omega) (by omega) HAG2.out).mono ?_; rintro e w' ⟨rfl, hBx⟩))
            all_goals
              rename_i hHeld
              obtain ⟨hz1, _⟩ := hHeld
              replace hzz := hzz.trans (hz1.mono hzz.size)
              go_wp2_with fail
              go_roundg (js.length - (i + 1) + 1)
              case measure => omega
              case rel => exact ⟨i + 1, _, rfl, by omega, rfl, by go_num, hzz⟩
        · have hli' : decide ((i : Int) < (js.length : Int)) = false := by simp; omega
          go_wp2_with fail
          go_roundg (3 - (k + 1))
          case measure => omega
          case rel =>
            refine ⟨k + 1, M, _, bn + 1, bj', ms ++ ns, by omega, rfl, by go_num, rfl, hM, by omega, by omega, by omega, HG1, (hBz.block b hB2k.lt).trans hB2k, owns_below hM2 hBz, hW2.trans (hBz.mono (Nat.le_of_lt hB2k.lt))⟩
    · have hlt' : decide ((k : Int) < 2) = false := by simp; omega
      go_wp2_with fail
      go_ret
      rw [← HBW.out]
      exact ⟨rfl, hW⟩

end Go.Proofs.YtanknpmojblmcaaDoor
