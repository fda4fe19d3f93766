/-
  WmH MvR WmI, put together.
-/
import Derived.Test.YtanknpmojblmcaaGreatDoorGd2
import Derived.Test.YtanknpmojblmcaaGreatDoorGe2
import Derived.Test.YtanknpmojblmcaaGreatDoorGc1
import Derived.ProofKit
import Derived.OpenShut
import Derived.ShutString
import Derived.ChangeOld
import Derived.Below
import Derived.Deep.Slices
/-
  A world's walk: submit.
-/
set_option linter.unusedSimpArgs false
set_option linter.unusedVariables false
namespace Go.Proofs.YtanknpmojblmcaaGreatDoor
open Go.RowKit

variable {D E : Nat → Prop} {bw sy kb : Nat} {x : WS} {gv jv qv bv : Value} {sl : Nat → Sl} {w w' : World}

theorem wo_other {c N : Nat} {t : Int} {ms : List MB} {bn bj : Nat} (hw : Wo bw sy kb N t w) (hb : BM D E c ms bn bj bv sl w) : bw ≠ c ∧ bv.ownBlock ≠ some bw ∧ ∀ k, k < ms.length → (slV (sl k)).ownBlock ≠ some bw := by
  refine ⟨?_, row_ne hb.mr hw (by decide), fun k hk => row_ne (hb.pr k hk) hw (by decide)⟩
  intro e
  subst e
  have := hw.symm.trans hb.bk
  injection this with this
  injection this with _ h2 _
  exact absurd h2 (by decide)
/-- A world in memory, wherever its parts lie. -/
def WMe (D : Nat → Prop) (bw sy : Nat) (x : WS) (w : World) : Prop := ∃ E kb gv jv qv bv sl, WM D E bw sy kb x gv jv qv bv sl w
theorem WOK.sml (h : WOK x) : ∀ m ∈ x.ms, SmlB m := by
  intro m hm
  have hl := h.wi.st.ok.n.ln
  have hb := h.wi.bk.bat m hm
  have hbn := h.bn
  have hms := h.ms_le
  obtain ⟨k, hk, rfl⟩ := List.getElem_of_mem hm
  have h1 := h.wi.bk.fst k hk
  have h2 := sum_take_le x.ms k hk
  have h3 := h.wi.bk.cnt
  rw [show x.ms.getD k mb0 = x.ms[k] from by simp [hk]] at h1 h2
  exact ⟨h.wi.bk.good _ hm, by omega, by omega⟩
theorem bs_listOf (l : List UInt8) : (bs l).data.toList = l := bs_list l
def subW (x : WS) (T : List UInt8) : WS :=
  if 24 < (batF x.ms x.bn x.p.js.length x.p.nodes T).jobs then x else ⟨(subF x.p (batF x.ms x.bn x.p.js.length x.p.nodes T).text).1, (batF x.ms x.bn x.p.js.length x.p.nodes T).ms, x.bn + 1⟩
/-- The old book beside new things. -/
theorem BM.narrow (h : BM D E kb x.ms x.bn x.p.js.length bv sl w) (k : Below w.heap.size w w') : BM D (fun j => (E j ∧ j < w.heap.size) ∨ w'.heap.size ≤ j) kb x.ms x.bn x.p.js.length bv sl w' := by
  have hs := k.size
  have n : ∀ g, g < w.heap.size → ¬ E g → ¬ ((E g ∧ g < w.heap.size) ∨ w'.heap.size ≤ g) := by
    intro g hg he q
    rcases q with q | q
    · exact he q.1
    · omega
  have b := h.below k
  exact ⟨b.bk, b.mr, b.pr, ⟨h.dk.1, n _ h.bk.lt h.dk.2⟩, fun g hg => ⟨(h.dv g hg).1, n g (h.mr.lt g hg).2 (h.dv g hg).2⟩, fun i hi g hg => ⟨(h.dp i hi g hg).1, n g ((h.pr i hi).lt g hg).2 (h.dp i hi g hg).2⟩, h.nl⟩
theorem row_len0 {w : World} {base size : Nat} {e : TypeId} {v : Value} {xs : List Value} (h : w.ownsRow base e size v 0 xs) : ∃ a c, v = .slice a 0 c := by
  rcases h.2 with ⟨rfl, _⟩ | ⟨g, cap, cur, rfl, _⟩
  · exact ⟨_, _, rfl⟩
  · exact ⟨_, _, rfl⟩

/-- The new book. -/
theorem new_book {ms ns rs : List MB} {bn bj j c : Nat} {v2 : Value} {sl2 : Nat → Sl} (ho : BM D E kb ms bn bj bv sl w) (hr : rs = ms ++ ns) (hn : ns ≠ []) (hB : Bk c v2 (bn + 1) j w) (hM : w.ownsRow (c + 1) 87 12 v2 rs.length (flatM (vsB rs sl2))) (hS : ∀ q, q < ms.length → sl2 q = sl q)
    (hP : ∀ q, ms.length ≤ q → q < rs.length → w.ownsRow (c + 1) 140 3 (.slice (sl2 q).1 (sl2 q).2.1 (sl2 q).2.2) (rs.getD q mb0).parts.length (flatPt (rs.getD q mb0).parts)) (hd : ∀ g, c ≤ g → g < w.heap.size → D g ∧ ¬ E g) : BM D E c rs (bn + 1) j v2 sl2 w := by
  refine ⟨hB, ownsRow_base hM (Nat.zero_le _), ?_, hd c (Nat.le_refl _) hB.lt, fun g hg => hd g (by have := (hM.lt g hg).1; omega) (hM.lt g hg).2, ?_, ?_⟩
  · intro q hq
    by_cases e : q < ms.length
    · have e1 : rs.getD q mb0 = ms.getD q mb0 := by rw [hr]; simp [List.getElem?_append, e]
      rw [e1, hS q e]
      exact ho.pr q e
    · exact ownsRow_base (hP q (by omega) hq) (Nat.zero_le _)
  · intro q hq g hg
    by_cases e : q < ms.length
    · rw [hS q e] at hg
      exact ho.dp q e g hg
    · have := hP q (by omega) hq
      exact hd g (by have := (this.lt g hg).1; omega) (this.lt g hg).2
  · intro e
    rw [hr] at e
    exact absurd (List.append_eq_nil_iff.1 e).2 hn

set_option maxRecDepth 100000 in
set_option maxHeartbeats 8000000 in
theorem wSubmit (h : WM D E bw sy kb x gv jv qv bv sl w) (hw : WOK x) (T : ByteArray) (hT : T.size ≤ maxLen) :
    Calls Tryz.prog 58 #[.pointer (some ⟨bw, 0, none⟩), .string T] w fun e w' => e = .returned (.bool true) ∧ WMe D bw sy (subW x T.data.toList) w' ∧ Keep D w w' := by
  obtain ⟨ns, hs, B⟩ := batF_ok (bn := x.bn) (bj := x.p.js.length) (T := T.data.toList) hw.wi.bk.good hw.n1 hw.n8
  obtain ⟨s1, s2, s3⟩ := submit_ok hw.wi B hw.n8
  have hro := B.readOK
  have hjb := B.jb
  have hmm := B.mm
  have hrd := B.rd
  have hn1 := B.n1
  have HNN : Hid (ns ≠ []) := by intro e; rw [e] at hn1; simp at hn1
  have hcn1 : 1 ≤ cntM ns := by
    have := (B.hd 0 (by omega)).good.c1
    have q := sum_take_le ns 0 (by omega)
    omega
  have htl := (readH_so B.rd).1
  have hown : cntG (grpF hs x.p.js.length) = cntM ns := by rw [B.own, cntG_map]
  have HOWN : Hid (cntG (grpF hs x.p.js.length) = cntM ns) := hown
  obtain ⟨R, hR⟩ : ∃ R, R = batF x.ms x.bn x.p.js.length x.p.nodes T.data.toList := ⟨_, rfl⟩
  rw [← hR] at s1 s2 hro hjb hmm hrd htl
  have HSW : Hid (subW x T.data.toList = if 24 < R.jobs then x else ⟨(subF x.p R.text).1, R.ms, x.bn + 1⟩) := by show _ = _; unfold subW; rw [hR]
  have HR : Hid (R = batF x.ms x.bn x.p.js.length x.p.nodes T.data.toList) := hR
  have H1 : Hid _ := s1
  have H2 : Hid _ := s2
  have H3 : Hid _ := s3
  have HRO : Hid (ReadOK R.text) := hro
  have HMM : Hid (R.ms = x.ms ++ ns) := hmm
  have HRD : Hid (readH R.text = (hs, 0, 0)) := hrd
  clear s1 s2 s3 hR hro hmm hrd B hn1 hown
  have hl24 := hw.wi.st.ok.n.ln
  have hms := hw.ms_le
  have hbn := hw.bn
  have HW : Hid (WM D E bw sy kb x gv jv qv bv sl w) := h
  have HK : Hid (WOK x) := hw
  have hbw := whole_lt h.wo
  have c0 := h.c.1; have c1 := h.c.2.1; have c3 := h.c.2.2.2
  have hd1 := hw.n1
  have hd8 := hw.n8
  clear h hw
  go_enter Tryz.func58, Tryz.ntmps58
  go_wp2_with fail
  refine (wCopied kb bv x.bn x.p.js.length x.ms sl w HW.out.bm.bk HW.out.bm.mr HW.out.bm.nl (by omega)).mono ?_
  rintro e y1 ⟨c, v1, rfl, hcw, hB1, hM1, hY1⟩
  have d1 := (hY1.cell (p := ⟨bw, 1, none⟩) hbw).trans c1
  clear c1
  go_wp2_with fail
  refine (batchE c v1 x.bn x.p.js.length x.ms sl x.p.nodes T y1 hB1 hM1 hT (by omega) HK.out.sml (by omega) (by omega) hd1 hd8).mono ?_
  rintro e y2 ⟨v2, sl2, he, hB2, hM2, hS2, hP2, hY2⟩
  rw [← HR.out] at he hB2 hM2 hP2
  subst he
  have hc1 := hB1.lt
  have hY12 : Below w.heap.size w y2 := hY1.trans (hY2.mono hcw)
  have HY : Hid (Below w.heap.size w y2) := hY12
  have hsz := hY12.size
  have hc2 := hB2.lt
  have d0 := (hY12.cell (p := ⟨bw, 0, none⟩) hbw).trans c0
  have d3 := (hY12.cell (p := ⟨bw, 3, none⟩) hbw).trans c3
  have HSN : Hid (SM (fun k => (E k ∧ k < w.heap.size) ∨ y2.heap.size ≤ k) sy x.p gv jv qv y2) := HW.out.sm.narrow hY12
  have HBN : Hid (BM D (fun k => (E k ∧ k < w.heap.size) ∨ y2.heap.size ≤ k) kb x.ms x.bn x.p.js.length bv sl y2) := HW.out.bm.narrow hY12
  have HWO : Hid (Wo bw sy kb x.p.nodes x.p.now y2) := (hY12.block bw hbw).trans HW.out.wo
  have HNE : Hid (¬ ((E bw ∧ bw < w.heap.size) ∨ y2.heap.size ≤ bw)) := by
    intro q
    rcases q with q | q
    · exact HW.out.dw.2 q.1
    · omega
  have HB2 : Hid (Bk c v2 (x.bn + 1) R.jobs y2) := hB2
  have HM2 : Hid _ := hM2
  have HS2 : Hid _ := hS2
  have HP2 : Hid _ := hP2
  have HKD : Hid (Keep D w y2) := Keep.below hY12 HW.out.dom
  clear hB1 hM1 hY1 hB2 hM2 hS2 hP2 hY2 hY12 c0 c3 d1
  obtain ⟨E2, hE2⟩ : ∃ E2 : Nat → Prop, E2 = fun k => (E k ∧ k < w.heap.size) ∨ y2.heap.size ≤ k := ⟨_, rfl⟩
  rw [← hE2] at HSN HBN
  have HE2 : Hid (E2 = fun k => (E k ∧ k < w.heap.size) ∨ y2.heap.size ≤ k) := hE2
  have HNE2 : Hid (¬ E2 bw) := by rw [hE2]; exact HNE.out
  have HED : Hid (∀ k, E2 k → D k) := by
    intro k hk
    rw [hE2] at hk
    rcases hk with q | q
    · exact HW.out.ed k q.1
    · exact HW.out.dom k (by omega)
  clear hE2 HNE
  have HDC : Hid (∀ g, c ≤ g → g < y2.heap.size → D g ∧ ¬ E2 g) := by
    intro g h1 h2
    refine ⟨HW.out.dom g (by omega), ?_⟩
    rw [HE2.out]
    intro q
    rcases q with q | q
    · have := q.2; omega
    · omega
  have HBM : Hid (BM D E2 c R.ms (x.bn + 1) R.jobs v2 sl2 y2) := new_book HBN.out HMM.out HNN.out HB2.out HM2.out HS2.out HP2.out HDC.out
  clear HM2 HS2 HP2
  have hzt := bs_size R.text
  go_wp2_with fail
  refine (sySubmit (bs R.text) HSN.out HK.out.wi.st.ok HK.out.wi.gok (by rw [bs_listOf]; exact HRO.out) (by rw [hzt]; unfold maxLen; omega) (by
    intro own hs' ho hh hc
    rw [bs_listOf, HRD.out] at ho hh
    subst ho; subst hh
    refine H3.out ?_
    rw [HOWN.out] at hc
    exact hc)).mono ?_
  rintro e y3 ⟨rv, he, hway⟩
  rw [bs_listOf] at he hway
  by_cases hfull : 24 < R.jobs
  · have HSX : Hid (subW x T.data.toList = x) := HSW.out.trans (if_pos hfull)
    have hsub := H1.out (by omega)
    rw [hsub] at he hway
    dsimp only at he hway
    have hway2 : ∃ ra rc gv' jv' qv', rv = .slice ra 0 rc ∧ SM E2 sy x.p gv' jv' qv' y3 ∧ Keep E2 y2 y3 := by
      rcases hway with ⟨_, hb, hrow⟩ | ⟨hrv, _, ⟨g', j', q', hs'⟩, hk⟩
      · obtain ⟨a, d, hf⟩ := row_len0 hrow
        exact ⟨a, d, gv, jv, qv, hf, HSN.out.below hb, Keep.below hb HSN.out.dom⟩
      · exact ⟨none, 0, g', j', q', hrv, hs', hk⟩
    obtain ⟨ra, rc, gv', jv', qv', rfl, hS3, hK3⟩ := hway2
    subst he
    have HW3 : Hid (WM D E2 bw sy kb x gv' jv' qv' bv sl y3) := ⟨(hK3.block bw HNE2.out).trans HWO.out, hS3, HBN.out.keep hK3, HED.out, ⟨HW.out.dw.1, HNE2.out⟩⟩
    have HK3 : Hid (Keep D w y3) := HKD.out.trans (hK3.widen HED.out)
    have HB3c := (hK3.block c (HDC.out c (Nat.le_refl _) hc2).2).trans HB2.out
    have k2 := whole_cell HB3c 2
    simp at k2
    clear hway hS3 hK3 hsub
    have Y := whole_new y3 (.cells #[.int .i64 8, .int .i64 0, .int .i64 0, .int .i64 0, .slice ra 0 rc] 38 (0, 0))
    have B4 : Below y3.heap.size y3 (y3.alloc (.cells #[.int .i64 8, .int .i64 0, .int .i64 0, .int .i64 0, .slice ra 0 rc] 38)) := (Below.refl _ _).alloc (Nat.le_refl _) _
    have hcy : c < y3.heap.size := by have := whole_lt HB3c; exact this
    have k2' := (B4.cell (p := ⟨c, 2, none⟩) hcy).trans k2
    have HW4 : Hid (WM D E2 bw sy kb x gv' jv' qv' bv sl (y3.alloc (.cells #[.int .i64 8, .int .i64 0, .int .i64 0, .int .i64 0, .slice ra 0 rc] 38))) := HW3.out.below B4
    have HK4 : Hid (Keep D w (y3.alloc (.cells #[.int .i64 8, .int .i64 0, .int .i64 0, .int .i64 0, .slice ra 0 rc] 38))) := HK3.out.trans (Keep.below B4 HW3.out.dom)
    go_upto_region 4 with fail
    generalize y3.alloc (.cells #[.int .i64 8, .int .i64 0, .int .i64 0, .int .i64 0, .slice ra 0 rc] 38) = y4 at *
    generalize y3.heap.size = ab at *
    have a0 := whole_cell Y 0; have a1 := whole_cell Y 1; have a2 := whole_cell Y 2; have a3 := whole_cell Y 3; have a4 := whole_cell Y 4
    simp at a0 a1 a2 a3 a4
    have hfI : (24 : Int) < (R.jobs : Int) := by omega
    clear B4 Y k2
    go_wp2_with fail
    go_ret
    refine ⟨rfl, ?_, HK4.out⟩
    rw [HSX.out]
    exact ⟨_, _, _, _, _, _, _, HW4.out⟩
  · have HSX : Hid (subW x T.data.toList = ⟨(subF x.p R.text).1, R.ms, x.bn + 1⟩) := HSW.out.trans (if_neg hfull)
    obtain ⟨q, hsub, hwi, hqn, hqd, _⟩ := H2.out (by omega)
    have HSUB : Hid (subF x.p R.text = (q, (0, 0, x.p.js.length, cntM ns), [])) := hsub
    have hql : q.js.length = R.jobs := by rw [hwi.len, hjb]
    rw [hsub] at he hway
    dsimp only at he hway
    have hway2 : rv = .slice none 0 0 ∧ ∃ gv' jv' qv', SM E2 sy q gv' jv' qv' y3 ∧ Keep E2 y2 y3 := by
      rcases hway with ⟨hqp, _⟩ | ⟨hrv, _, ⟨g', j', q', hs'⟩, hk⟩
      · exfalso
        rw [hqp] at hql
        omega
      · exact ⟨hrv, g', j', q', hs', hk⟩
    obtain ⟨rfl, gv', jv', qv', hS3, hK3⟩ := hway2
    have HQL : Hid (q.js.length = R.jobs) := hql
    have HQN : Hid (q.now = x.p.now ∧ q.nodes = x.p.nodes) := ⟨hqn, hqd⟩
    subst he
    have W3 : Wo bw sy kb x.p.nodes x.p.now y3 := (hK3.block bw HNE2.out).trans HWO.out
    have B3 : BM D E2 c R.ms (x.bn + 1) R.jobs v2 sl2 y3 := HBM.out.keep hK3
    have O3 : BM D E2 kb x.ms x.bn x.p.js.length bv sl y3 := HBN.out.keep hK3
    have HK3 : Hid (Keep D w y3) := HKD.out.trans (hK3.widen HED.out)
    clear hway hK3 hsub hwi hqn hqd hql
    have Y := whole_new y3 (.cells #[.int .i64 0, .int .i64 0, .int .i64 (x.p.js.length : Int), .int .i64 (cntM ns : Int), .slice none 0 0] 38 (0, 0))
    have B4 : Below y3.heap.size y3 (y3.alloc (.cells #[.int .i64 0, .int .i64 0, .int .i64 (x.p.js.length : Int), .int .i64 (cntM ns : Int), .slice none 0 0] 38)) := (Below.refl _ _).alloc (Nat.le_refl _) _
    have HK4 : Hid (Keep D w (y3.alloc (.cells #[.int .i64 0, .int .i64 0, .int .i64 (x.p.js.length : Int), .int .i64 (cntM ns : Int), .slice none 0 0] 38))) := HK3.out.trans (Keep.below B4 (fun k hk => HED.out k (hS3.dom k hk)))
    have S4 := hS3.below B4
    have BB4 := B3.below B4
    have OO4 := O3.below B4
    have W4 : Wo bw sy kb x.p.nodes x.p.now (y3.alloc (.cells #[.int .i64 0, .int .i64 0, .int .i64 (x.p.js.length : Int), .int .i64 (cntM ns : Int), .slice none 0 0] 38)) := (B4.block bw (whole_lt W3)).trans W3
    clear hS3 B3 O3 W3
    go_upto_region 4 with fail
    generalize y3.alloc (.cells #[.int .i64 0, .int .i64 0, .int .i64 (x.p.js.length : Int), .int .i64 (cntM ns : Int), .slice none 0 0] 38) = y4 at *
    generalize hab : y3.heap.size = ab at *
    have a0 := whole_cell Y 0; have a1 := whole_cell Y 1; have a2 := whole_cell Y 2; have a3 := whole_cell Y 3; have a4 := whole_cell Y 4
    simp at a0 a1 a2 a3 a4
    have k2 := BB4.bk.c 2
    have o2 := OO4.bk.c 2
    simp at k2 o2
    have e3 := whole_cell W4 3; have z3 := whole_frozen W4 3
    simp at e3
    have hfI : ¬ (24 : Int) < (R.jobs : Int) := by omega
    have hbc := (wo_other W4 BB4).1
    have hab2 : bw ≠ ab := by
      intro e
      have q1 := Y
      rw [← e] at q1
      have := W4.symm.trans q1
      injection this with this
      injection this with _ h2 _
      exact absurd h2 (by decide)
    have HBB : Hid _ := BB4
    have HSS : Hid _ := S4
    have HWW : Hid _ := W4
    have hdif : (R.jobs : Int) - (x.p.js.length : Int) = (cntM ns : Int) := by omega
    have hRI : (R.jobs : Int) ≤ 24 := by omega
    generalize x.p.js.length = jl at *
    obtain ⟨wb1, wb2, wb3⟩ := wo_other W4 BB4
    have F1 : Hid _ := whole_set HWW.out 3 (.pointer (some ⟨c, 0, none⟩))
    have F2 : Hid _ := HSS.out.setO (a := ⟨bw, 3, none⟩) HNE2.out (.pointer (some ⟨c, 0, none⟩))
    have F3 : Hid _ := HBB.out.setO (a := ⟨bw, 3, none⟩) wb1 wb2 wb3 (.pointer (some ⟨c, 0, none⟩))
    have F4 : Hid _ := HK4.out.setCell (p := ⟨bw, 3, none⟩) HW.out.dw.1 (.pointer (some ⟨c, 0, none⟩))
    have Y5 := whole_set_ne Y ⟨bw, 3, none⟩ (by show bw ≠ ab; exact hab2) (.pointer (some ⟨c, 0, none⟩))
    have f0 := whole_cell Y5 0; have f1 := whole_cell Y5 1; have f2 := whole_cell Y5 2; have f3 := whole_cell Y5 3; have f4 := whole_cell Y5 4
    simp at f0 f1 f2 f3 f4
    have g2 := F3.out.bk.c 2
    simp at g2
    have F5 : Hid (Below (y4.setCell ⟨bw, 3, none⟩ (.pointer (some ⟨c, 0, none⟩))).heap.size (y4.setCell ⟨bw, 3, none⟩ (.pointer (some ⟨c, 0, none⟩))) (y4.setCell ⟨bw, 3, none⟩ (.pointer (some ⟨c, 0, none⟩)))) := Below.refl _ _
    have hcI : (cntM ns : Int) ≤ 24 := by omega
    have hcO : (0 : Int) ≤ (cntM ns : Int) := by omega
    clear B4 Y Y5 BB4 OO4 S4 W4 hab wb1 wb2 wb3 HWW HSS HBB HK4 hjb
    go_wp2_with fail
    generalize y4.setCell ⟨bw, 3, none⟩ (.pointer (some ⟨c, 0, none⟩)) = y5 at *
    clear a0 a1 a2 a3 a4 k2 o2 e3 z3
    go_quiet (fail)
    go_wp2_with fail
    go_ret
    refine ⟨rfl, ?_, F4.out.drewN _⟩
    rw [HSX.out, HSUB.out]
    refine ⟨E2, c, gv', jv', qv', v2, sl2, ?_⟩
    refine WM.below (w := y5) ⟨?_, F2.out, ?_, HED.out, ⟨HW.out.dw.1, HNE2.out⟩⟩ (below_drewN (Below.refl _ _) _)
    · show Wo bw sy c q.nodes q.now _
      rw [HQN.out.1, HQN.out.2]
      exact F1.out
    · show BM D E2 c R.ms (x.bn + 1) q.js.length v2 sl2 _
      rw [HQL.out]
      exact F3.out
end Go.Proofs.YtanknpmojblmcaaGreatDoor

/-
  Moves that came in.
-/
set_option linter.unusedSimpArgs false
set_option linter.unusedVariables false
namespace Go.Proofs.YtanknpmojblmcaaGreatDoor
open Go.ChangeShapes Go.WideShapes Go.ChangeAt Go.RowKit

structure MvOK (m : Mv) : Prop where
  k1 : -9223372036854775808 ≤ m.kind
  k2 : m.kind ≤ 9223372036854775807
  a1 : -9223372036854775808 ≤ m.a
  a2 : m.a ≤ 9223372036854775807
  b1 : -9223372036854775808 ≤ m.b
  b2 : m.b ≤ 9223372036854775807
  s1 : m.s.size ≤ maxLen
/-- A slice of moves. -/
def IsMvs (w : World) (a : Option Addr) (len cap : Nat) : Prop :=
  (a = none ∧ len = 0 ∧ cap = 0) ∨ ∃ x, a = some x ∧ len ≤ cap ∧ cap ≤ maxLen ∧ ∀ k, k < len → ∃ m : Mv, MvOK m ∧ w.cell? (x.add (k * 4)) = some (.int .i64 m.kind) ∧ w.cell? ((x.add (k * 4)).add 1) = some (.int .i64 m.a) ∧ w.cell? ((x.add (k * 4)).add 2) = some (.int .i64 m.b) ∧ w.cell? ((x.add (k * 4)).add 3) = some (.string m.s)

theorem mvs_of {H : Type} {enc : TypeId × Value → H} {W : World} {a : Option Addr} {len cap : Nat} {d : DataW H} {ps : List MemPlace} (h0 : DataW.Trod enc Tryz.prog W 0 (fun _ => true) true 47 (.slice a len cap) d ps) : IsMvs W a len cap := by
  obtain ⟨fuel, hf⟩ := h0
  rcases Deep.open_slice Tryz.underlying47 hf with ⟨hcs, _⟩ | ⟨x, l, c, m, n, D, Pl, hcs, _, hl, hm, hmm, hxe, hx⟩
  · simp [Value.cells] at hcs
    obtain ⟨rfl, rfl, rfl⟩ := hcs
    exact .inl ⟨rfl, rfl, rfl⟩
  · simp [Value.cells] at hcs
    obtain ⟨rfl, rfl, rfl⟩ := hcs
    refine .inr ⟨x, rfl, hl, hm, ?_⟩
    intro i hi
    have hc4 : Tryz.prog.cellsOf 93 = 4 := by kernel_rfl
    obtain ⟨cs', h1, h2⟩ := hx i (by simp at hmm; omega)
    rw [hc4] at h1
    obtain ⟨_, hlen, hcell⟩ := World.cells?_some h1
    obtain ⟨xs, k, hk, hDi, _, hxl, hff⟩ := DataW.trod_struct Tryz.underlying93 h2
    have hc3 : Tryz.prog.cellsOf 3 = 1 := by kernel_rfl
    have hc9 : Tryz.prog.cellsOf 9 = 1 := by kernel_rfl
    obtain ⟨c0, c1, c2, c3, rfl⟩ : ∃ c0 c1 c2 c3, cs' = [c0, c1, c2, c3] := by
      clear hcell hff h2 h1
      match cs', hlen with
      | [c0, c1, c2, c3], _ => exact ⟨c0, c1, c2, c3, rfl⟩
    obtain ⟨x0, x1, x2, x3, rfl⟩ : ∃ x0 x1 x2 x3, xs = [x0, x1, x2, x3] := by
      clear hDi hff
      match xs, hxl with
      | [x0, x1, x2, x3], _ => exact ⟨x0, x1, x2, x3, rfl⟩
    have f0 := hff 0 _ rfl
    have f1 := hff 1 _ rfl
    have f2 := hff 2 _ rfl
    have f3 := hff 3 _ rfl
    simp [hc3, hc9] at f0 f1 f2 f3
    obtain ⟨n0, e0, _, b0⟩ := DataW.trod_int Tryz.underlying3 f0
    obtain ⟨n1, e1, _, b1⟩ := DataW.trod_int Tryz.underlying3 f1
    obtain ⟨n2, e2, _, b2⟩ := DataW.trod_int Tryz.underlying3 f2
    obtain ⟨s3, e3, _, hs3⟩ := DataW.trod_string Tryz.underlying9 f3
    simp at e0 e1 e2 e3
    subst e0 e1 e2 e3
    have g0 := hcell 0 (by omega)
    have g1 := hcell 1 (by omega)
    have g2 := hcell 2 (by omega)
    have g3 := hcell 3 (by omega)
    simp at g0 g1 g2 g3
    refine ⟨⟨n0, n1, n2, s3⟩, ⟨(bounds_i64 b0).1, (bounds_i64 b0).2, (bounds_i64 b1).1, (bounds_i64 b1).2, (bounds_i64 b2).1, (bounds_i64 b2).2, hs3⟩, ?_, g1, g2, g3⟩
    simpa [Addr.add] using g0
end Go.Proofs.YtanknpmojblmcaaGreatDoor

/-
  A world's walk: a move.
-/
set_option linter.unusedSimpArgs false
set_option linter.unusedVariables false
namespace Go.Proofs.YtanknpmojblmcaaGreatDoor
open Go.RowKit

variable {D E : Nat → Prop} {bw sy kb : Nat} {x : WS} {gv jv qv bv : Value} {sl : Nat → Sl} {w w' : World}

def mvA (m : Mv) : Array Value := #[.int .i64 m.kind, .int .i64 m.a, .int .i64 m.b, .string m.s]
theorem WMe.below (h : WMe D bw sy x w) (k : Below w.heap.size w w') : WMe D bw sy x w' := by
  obtain ⟨E, kb, gv, jv, qv, bv, sl, h⟩ := h
  exact ⟨E, kb, gv, jv, qv, bv, sl, h.below k⟩
theorem WMe.dom (h : WMe D bw sy x w) : ∀ k, w.heap.size ≤ k → D k := by
  obtain ⟨E, kb, gv, jv, qv, bv, sl, h⟩ := h
  exact h.dom

set_option maxRecDepth 100000 in
set_option maxHeartbeats 8000000 in
theorem wMove (h : WMe D bw sy x w) (hw : WOK x) (m : Mv) (hm : MvOK m) :
    Calls Tryz.prog 30 #[.pointer (some ⟨bw, 0, none⟩), .agg (mvA m)] w fun e w' => e = .returned (.bool true) ∧ WMe D bw sy (stepW x m) w' ∧ Keep D w w' := by
  obtain ⟨R, hR⟩ : ∃ R, R = stepW x m := ⟨_, rfl⟩
  rw [← hR]
  have hB0 : Below w.heap.size w (w.alloc (.cells #[.int .i64 m.kind, .int .i64 m.a, .int .i64 m.b, .string m.s] 93)) := (Below.refl _ w).alloc (Nat.le_refl _) _
  have HK0 : Hid (Keep D w (w.alloc (.cells #[.int .i64 m.kind, .int .i64 m.a, .int .i64 m.b, .string m.s] 93))) := Keep.below hB0 h.dom
  have hX := h.below hB0
  obtain ⟨E, kb, gv, jv, qv, bv, sl, hX⟩ := hX
  have HW : Hid (WM D E bw sy kb x gv jv qv bv sl (w.alloc (.cells #[.int .i64 m.kind, .int .i64 m.a, .int .i64 m.b, .string m.s] 93))) := hX
  have HWK : Hid (WOK x) := hw
  have Y := whole_new w (.cells #[.int .i64 m.kind, .int .i64 m.a, .int .i64 m.b, .string m.s] 93 (0, 0))
  have HR : Hid (R = stepW x m) := hR
  obtain ⟨kd, a, b, s⟩ := m
  obtain ⟨k1, k2, a1, a2, b1, b2, s1⟩ := hm
  dsimp only at *
  unfold mvA
  clear h hw hB0 hX hR
  have hl24 := HWK.out.wi.st.ok.n.ln
  go_enter Tryz.func30, Tryz.ntmps30
  go_upto_region 1 with fail
  generalize w.alloc (.cells #[.int .i64 kd, .int .i64 a, .int .i64 b, .string s] 93) = x0 at *
  generalize w.heap.size = mb at *
  have m0 := whole_cell Y 0; have m1 := whole_cell Y 1; have m2 := whole_cell Y 2; have m3 := whole_cell Y 3
  simp at m0 m1 m2 m3
  by_cases h1 : kd = 1
  · have HR2 : Hid (R = subW x s.data.toList) := by show _ = _; rw [HR.out, h1]; rfl
    subst h1
    clear HR
    go_wp2_with fail
    refine (wSubmit HW.out HWK.out s s1).mono ?_
    rintro e y1 ⟨rfl, hy, hk⟩
    have HY : Hid (WMe D bw sy (subW x s.data.toList) y1) := hy
    have HKK : Hid (Keep D w y1) := HK0.out.trans hk
    clear hy hk
    go_wp2_with fail
    go_ret
    exact ⟨rfl, by rw [HR2.out]; exact HY.out, HKK.out⟩
  have h1' : (kd == 1) = false := by rw [beq_eq_false_iff_ne]; exact h1
  by_cases h4 : kd = 4
  · have HR2 : Hid (R = if 3000 < x.p.now + ((1 + pikD a % 9 : Nat) : Int) then x else ⟨tickN x.p (1 + pikD a % 9), x.ms, x.bn⟩) := by
      show _ = _
      rw [HR.out, h4]; rfl
    subst h4
    clear HR h1
    go_wp2_with fail
    refine (pkPick a 9 a1 a2 (by omega) (by omega) _).mono ?_
    rintro e y1 ⟨he, rfl⟩
    obtain ⟨q, hq⟩ : ∃ q, q = pikD a % 9 := ⟨_, rfl⟩
    have hq9 : q < 9 := by rw [hq]; exact Nat.mod_lt _ (by omega)
    rw [← hq] at he HR2
    subst he
    obtain ⟨n, hn⟩ : ∃ n, n = 1 + q := ⟨_, rfl⟩
    have en : (1 : Int) + (q : Int) = (n : Int) := by omega
    rw [← hn] at HR2
    have hn1 : 1 ≤ n := by omega
    have hn9 : n ≤ 9 := by omega
    clear hq hn hq9
    go_wp2_with fail
    refine (wTick HW.out HWK.out n hn1 hn9).mono ?_
    rintro e y2 ⟨rfl, ⟨qv', hy⟩, hk⟩
    have HY : Hid (WMe D bw sy (if 3000 < x.p.now + (n : Int) then x else ⟨tickN x.p n, x.ms, x.bn⟩) y2) := ⟨_, _, _, _, _, _, _, hy⟩
    have HKK : Hid (Keep D w y2) := HK0.out.trans hk
    clear hy hk
    go_wp2_with fail
    go_ret
    exact ⟨rfl, by rw [HR2.out]; exact HY.out, HKK.out⟩
  have h4' : (kd == 4) = false := by rw [beq_eq_false_iff_ne]; exact h4
  by_cases h23 : kd = 2 ∨ kd = 3
  · obtain ⟨held, hheld⟩ : ∃ held : Bool, held = decide (kd = 3) := ⟨_, rfl⟩
    have hk3 : (kd == 3) = held := by rw [hheld]; by_cases e : kd = 3 <;> simp [e]
    have HR2 : Hid (R = match amgF held x.p.js a with | none => x | some id => if held = true then ⟨(cancelF x.p (id : Int)).1, x.ms, x.bn⟩ else ⟨(finishF x.p (id : Int) (decide (pikD b % 2 = 1))).1, x.ms, x.bn⟩) := by
      show _ = _
      rw [HR.out, hheld]
      unfold stepW
      rcases h23 with rfl | rfl
      · dsimp only
        rw [if_neg (by decide), if_neg (by decide), if_pos rfl]
        rfl
      · dsimp only
        rw [if_neg (by decide), if_neg (by decide), if_neg (by decide), if_pos rfl]
        rfl
    have HAM : Hid (∀ id, amgF held x.p.js a = some id → id < x.p.js.length ∧ (held = false → (x.p.js.getD id pj0).st = 2) ∧ (x.p.js.getD id pj0).st ≤ 2) := by
      intro id hA
      unfold amgF at hA
      split at hA
      · simp at hA
      obtain ⟨q1, q2, q3⟩ := amgN_some _ hA
      unfold amgB at q2
      refine ⟨q1, ?_, ?_⟩
      · intro hf; rw [hf] at q2; simpa using q2
      · simp at q2; simp; omega
    clear HR hheld
    have hsw : (kd == 2) = !held := by
      rcases h23 with rfl | rfl
      · rw [← hk3]; decide
      · rw [← hk3]; decide
    have SW : ∀ K : Prop, (held = true → K) → (held = false → K) → K := fun K p q => by cases held with | true => exact p rfl | false => exact q rfl
    clear SW
    have KALL : Hid (∀ z : World, Below x0.heap.size x0 z → WM D E bw sy kb x gv jv qv bv sl z) := fun z hz => HW.out.below hz
    cases held with
    | true =>
      have hkd : kd = 3 := by simpa using hk3
      subst hkd
      clear hk3 hsw h1 h4 h23
      go_wp2_with fail
      refine (wAll HW.out HWK.out).mono ?_
      rintro e y1 ⟨lv, rfl, hrow, hY1⟩
      have hSt := Sts.of hrow
      have HW1 : Hid (WM D E bw sy kb x gv jv qv bv sl y1) := HW.out.below hY1
      have HK1 : Hid (Keep D w y1) := HK0.out.trans (Keep.below hY1 HW.out.dom)
      have m0' := (hY1.cell (p := ⟨mb, 0, none⟩) (whole_lt Y)).trans m0
      have m1' := (hY1.cell (p := ⟨mb, 1, none⟩) (whole_lt Y)).trans m1
      have HST : Hid (Sts lv x.p.js y1) := hSt
      clear hrow hY1 hSt m0 m1 m2 m3
      go_wp2_with fail
      refine (wAmong lv x.p.js a true y1 HST.out hl24 a1 a2).mono ?_
      rintro e y2 ⟨he, rfl⟩
      cases hA : amgF true x.p.js a with
      | none =>
        rw [hA] at he
        have HR3 : Hid (R = x) := by show _ = _; rw [HR2.out, hA]
        clear hA HR2 HAM
        subst he
        rw [show latI none = -1 from rfl]
        go_wp2_with fail
        go_ret
        exact ⟨rfl, by rw [HR3.out]; exact ⟨_, _, _, _, _, _, _, HW1.out⟩, HK1.out⟩
      | some id =>
        rw [hA] at he
        have HR3 : Hid (R = ⟨(cancelF x.p (id : Int)).1, x.ms, x.bn⟩) := by show _ = _; rw [HR2.out, hA]; rfl
        obtain ⟨p1, p2, p3⟩ := HAM.out id hA
        clear hA HR2 HAM
        subst he
        rw [show latI (some id) = (id : Int) from rfl]
        go_wp2_with fail
        refine (wCancel HW1.out HWK.out id p1 p3).mono ?_
        rintro e y3 ⟨rfl, ⟨qv', hy⟩, hk⟩
        have HY : Hid (WMe D bw sy ⟨(cancelF x.p (id : Int)).1, x.ms, x.bn⟩ y3) := ⟨_, _, _, _, _, _, _, hy⟩
        have HKK : Hid (Keep D w y3) := HK1.out.trans hk
        clear hy hk
        go_wp2_with fail
        go_ret
        exact ⟨rfl, by rw [HR3.out]; exact HY.out, HKK.out⟩
    | false =>
      have hkd : kd = 2 := by rcases h23 with e | e; exact e; rw [e] at hk3; simp at hk3
      subst hkd
      clear hk3 hsw h1 h4 h23
      go_wp2_with fail
      refine (wAll HW.out HWK.out).mono ?_
      rintro e y1 ⟨lv, rfl, hrow, hY1⟩
      have hSt := Sts.of hrow
      have HW1 : Hid (WM D E bw sy kb x gv jv qv bv sl y1) := HW.out.below hY1
      have HK1 : Hid (Keep D w y1) := HK0.out.trans (Keep.below hY1 HW.out.dom)
      have m0' := (hY1.cell (p := ⟨mb, 0, none⟩) (whole_lt Y)).trans m0
      have m1' := (hY1.cell (p := ⟨mb, 1, none⟩) (whole_lt Y)).trans m1
      have m2' := (hY1.cell (p := ⟨mb, 2, none⟩) (whole_lt Y)).trans m2
      have HST : Hid (Sts lv x.p.js y1) := hSt
      clear hrow hY1 hSt m0 m1 m2 m3
      go_wp2_with fail
      refine (wAmong lv x.p.js a false y1 HST.out hl24 a1 a2).mono ?_
      rintro e y2 ⟨he, rfl⟩
      cases hA : amgF false x.p.js a with
      | none =>
        rw [hA] at he
        have HR3 : Hid (R = x) := by show _ = _; rw [HR2.out, hA]
        clear hA HR2 HAM
        subst he
        rw [show latI none = -1 from rfl]
        go_wp2_with fail
        go_ret
        exact ⟨rfl, by rw [HR3.out]; exact ⟨_, _, _, _, _, _, _, HW1.out⟩, HK1.out⟩
      | some id =>
        rw [hA] at he
        have HR3 : Hid (R = ⟨(finishF x.p (id : Int) (decide (pikD b % 2 = 1))).1, x.ms, x.bn⟩) := by show _ = _; rw [HR2.out, hA]; rfl
        obtain ⟨p1, p2, p3⟩ := HAM.out id hA
        clear hA HR2 HAM
        subst he
        rw [show latI (some id) = (id : Int) from rfl]
        go_wp2_with fail
        refine (pkPick b 2 b1 b2 (by omega) (by omega) _).mono ?_
        rintro e y2 ⟨he, rfl⟩
        obtain ⟨q, hq⟩ : ∃ q, q = pikD b % 2 := ⟨_, rfl⟩
        rw [← hq] at he HR3
        clear hq
        subst he
        obtain ⟨ok, hok⟩ : ∃ ok : Bool, ok = decide (q = 1) := ⟨_, rfl⟩
        have hq1 : ((q : Int) == 1) = ok := by
          rw [hok]
          by_cases e : q = 1
          · subst e; rfl
          · rw [decide_eq_false e, beq_eq_false_iff_ne]; omega
        rw [← hok] at HR3
        clear hok
        go_wp2_with fail
        refine (wFinish HW1.out HWK.out id ok p1 (by first | exact p2 trivial | exact p2 rfl)).mono ?_
        rintro e y3 ⟨rfl, ⟨qv', hy⟩, hk⟩
        have HY : Hid (WMe D bw sy ⟨(finishF x.p (id : Int) ok).1, x.ms, x.bn⟩ y3) := ⟨_, _, _, _, _, _, _, hy⟩
        have HKK : Hid (Keep D w y3) := HK1.out.trans hk
        clear hy hk
        go_wp2_with fail
        go_ret
        exact ⟨rfl, by rw [HR3.out]; exact HY.out, HKK.out⟩
  · have h2' : (kd == 2) = false := by rw [beq_eq_false_iff_ne]; exact fun e => h23 (Or.inl e)
    have h3' : (kd == 3) = false := by rw [beq_eq_false_iff_ne]; exact fun e => h23 (Or.inr e)
    have HR2 : Hid (R = x) := by
      show _ = _
      rw [HR.out]
      unfold stepW
      dsimp only
      rw [if_neg h1, if_neg h4, if_neg (fun e => h23 (Or.inl e)), if_neg (fun e => h23 (Or.inr e))]
    clear HR h1 h4 h23
    go_wp2_with fail
    go_ret
    exact ⟨rfl, by rw [HR2.out]; exact ⟨_, _, _, _, _, _, _, HW.out⟩, HK0.out⟩
end Go.Proofs.YtanknpmojblmcaaGreatDoor
