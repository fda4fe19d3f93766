/-
  BkD BkE, put together.
-/
import Derived.Test.YtanknpmojblmcaaGreatDoorGb2
import Derived.Test.YtanknpmojblmcaaGreatDoorGc1
import Derived.Deep.DeepCutAuto
/-
  The book's walk: an atom of a want.
-/
set_option linter.unusedSimpArgs false
set_option linter.unusedVariables false
namespace Go.Proofs.YtanknpmojblmcaaGreatDoor
open Go.RowKit

attribute [local go_sem ↓] Go.wp_at_zero Go.wp_at_succ

theorem beqFz {a b : Int} (h : a ≠ b) : (a == b) = false := by rw [beq_eq_false_iff_ne]; exact h
/-- Heads whose numbers are small. -/
def SmlB (x : MB) : Prop := GoodB x ∧ x.first ≤ 1000 ∧ x.batch ≤ 100
/-- What making a part of a want leaves. -/
def AtmB (b f h : Nat) (v : Value) (bn bj : Nat) (ms : List MB) (sl : Nat → Sl) (ov : Value) (on : List (List UInt8)) (m : MV) (ps : List (Nat × Nat × Nat)) (T : ByteArray) (w : World) (r : WT × List (Nat × Nat × Nat) × Nat) (e : Ending) (w' : World) : Prop :=
  ∃ pa pn pc, e = .returned (.string (bs (txW r.1))) ∧ Env b f h v bn bj ms sl ov on { m with pa := pa, pn := pn, pc := pc } (ps ++ r.2.1) T r.2.2 w' ∧ Upon f h w w'
def tstB (ms : List MB) (hb : Nat) (c : Nat) : Bool := match latB ms (nameL c) ms.length with
  | none => false
  | some k => decide ((ms.getD k mb0).batch < hb)
theorem tst_false {ms : List MB} {on : List (List UInt8)} {hb c : Nat} (h : tstB ms hb c = false) : askB ms on hb c = latB ms (nameL c) ms.length := by
  unfold tstB at h
  unfold askB
  split
  · rename_i q; rw [q]
  · rename_i k q
    rw [q] at h
    simp only [decide_eq_false_iff_not] at h
    rw [if_neg (fun z => h z.1), q]
theorem tst_true {ms : List MB} {hb c : Nat} (h : tstB ms hb c = true) : ∃ k, latB ms (nameL c) ms.length = some k ∧ (ms.getD k mb0).batch < hb := by
  unfold tstB at h
  split at h
  · simp at h
  · rename_i k q
    exact ⟨k, q, by simpa using h⟩
theorem ask_own {ms : List MB} {on : List (List UInt8)} {hb c k : Nat} (h : latB ms (nameL c) ms.length = some k) (hb2 : (ms.getD k mb0).batch < hb) : askB ms on hb c = if (ms.getD k mb0).job.name ∈ on then none else some k := by
  unfold askB
  rw [h]
  dsimp only
  by_cases q : (ms.getD k mb0).job.name ∈ on
  · rw [if_pos q, if_pos ⟨hb2, q⟩]
  · rw [if_neg q, if_neg (fun z => q z.2)]

theorem Env.grow {b f h : Nat} {v : Value} {bn bj : Nat} {ms : List MB} {sl : Nat → Sl} {ov : Value} {on : List (List UInt8)} {m : MV} {ps : List (Nat × Nat × Nat)} {T : ByteArray} {i : Nat} {z w' : World} {g n cap q0 q1 q2 : Nat} {xs : List Value} (E : Env b f h v bn bj ms sl ov on m ps T i z) (p5 : Below h z w') (p3 : Md h { m with pa := some ⟨g, 0, none⟩, pn := n + 1, pc := cap } w')
    (p4 : w'.ownsRow (h + 1) 140 3 (.slice (some ⟨g, 0, none⟩) (n + 1) cap) (n + 1) (xs ++ [.int .i64 (q0 : Int), .int .i64 (q1 : Int), .int .i64 (q2 : Int)])) (hn : n = ps.length) (hx : xs = flatPt ps) : Env b f h v bn bj ms sl ov on { m with pa := some ⟨g, 0, none⟩, pn := n + 1, pc := cap } (ps ++ [(q0, q1, q2)]) T i w' := by
  refine E.next p5 p3 ?_
  unfold PtsB
  rw [flatPt_snoc, ← hx, List.length_append, ← hn]
  exact p4
def atomG (ms : List MB) (hb : Nat) (nm : List UInt8) (T : List UInt8) (i1 : Nat) : Option Nat → WT × List (Nat × Nat × Nat) × Nat
  | none => (.sg, sglP ms hb nm, i1)
  | some k =>
    if (ms.getD k mb0).job.arr = true then
      if nxV T (nxI T i1) 2 = 1 then
        (.rf (nxV T i1 3) (ms.getD k mb0).job.name (some ((ms.getD k mb0).job.lo + nxV T (nxI T (nxI T i1)) (ms.getD k mb0).count)),
          [(nxV T i1 3 + 1, (ms.getD k mb0).first + nxV T (nxI T (nxI T i1)) (ms.getD k mb0).count, 1)], nxI T (nxI T (nxI T i1)))
      else (.rf (nxV T i1 3) (ms.getD k mb0).job.name none, [(nxV T i1 3 + 1, (ms.getD k mb0).first, (ms.getD k mb0).count)], nxI T (nxI T i1))
    else (.rf (nxV T i1 3) (ms.getD k mb0).job.name none, [(nxV T i1 3 + 1, (ms.getD k mb0).first, (ms.getD k mb0).count)], nxI T i1)
theorem atomF_G (ms : List MB) (own : List (List UInt8)) (hb : Nat) (nm T : List UInt8) (i : Nat) : atomF ms own hb nm T i = atomG ms hb nm T (nxI T i) (askB ms own hb (nxV T i 5)) := by
  unfold atomF atomG
  cases askB ms own hb (nxV T i 5) <;> rfl

set_option maxRecDepth 100000 in
set_option maxHeartbeats 8000000 in
theorem atomB (b f h : Nat) (v : Value) (bn bj : Nat) (ms : List MB) (sl : Nat → Sl) (ov : Value) (on : List (List UInt8)) (m : MV) (ps : List (Nat × Nat × Nat)) (T : ByteArray) (i : Nat) (w : World) (E : Env b f h v bn bj ms sl ov on m ps T i w) (hc : ps.length ≤ 900) (hl : ms.length ≤ 40) (hol : on.length ≤ 3)
    (hg : ∀ x ∈ ms, SmlB x) (hmb : m.batch ≤ 100) :
    Calls Tryz.prog 77 #[.pointer (some ⟨b, 0, none⟩), .pointer (some ⟨f, 0, none⟩), .int .i64 (ms.length : Int), ov, .pointer (some ⟨h, 0, none⟩)] w (AtmB b f h v bn bj ms sl ov on m ps T w (atomF ms on m.batch m.job.name T.data.toList i)) := by
  unfold AtmB
  obtain ⟨R, hR⟩ : ∃ R, R = atomF ms on m.batch m.job.name T.data.toList i := ⟨_, rfl⟩
  rw [← hR]
  have HR0 : Hid (R = atomF ms on m.batch m.job.name T.data.toList i) := hR
  clear hR
  obtain ⟨i0, hI0, hz0, hz1, hz2⟩ := info_parts infoPart
  obtain ⟨oa, oc, rfl⟩ := E.ow.form
  have U0 := Upon.refl f h w
  go_enter Tryz.func77, Tryz.ntmps77
  go_wp2_with fail
  refine (nextB f 5 T i _ E.fd (by omega) (by omega)).mono ?_
  rintro e w1 ⟨he, hf1, ha1⟩
  have U1 := U0.trans (Upon.aside ha1 (Nat.le_of_lt E.hlt))
  replace E := E.feed ha1 hf1
  clear ha1 hf1 U0
  obtain ⟨c1, hc1⟩ : ∃ c1, c1 = nxV T.data.toList i 5 := ⟨_, rfl⟩
  have hc5 : c1 < 5 := by rw [hc1]; exact nxV_lt _ _ (by omega)
  rw [← hc1] at he
  subst he
  obtain ⟨A, hA⟩ : ∃ A, A = askB ms on m.batch c1 := ⟨_, rfl⟩
  have hR := HR0.out
  rw [atomF_G, ← hc1, ← hA] at hR
  obtain ⟨i1, hi1⟩ : ∃ i1, i1 = nxI T.data.toList i := ⟨_, rfl⟩
  rw [← hi1] at E hR
  have HR : Hid (R = atomG ms m.batch m.job.name T.data.toList i1 A) := hR
  have HA : Hid (A = askB ms on m.batch c1) := hA
  clear hc1 hA hR hi1 HR0
  go_wp2_with fail
  refine (letters_any c1 (by omega) _).mono ?_
  rintro e w2 ⟨he, hB2⟩
  rw [Nat.mod_eq_of_lt hc5] at he
  subst he
  have U2 := U1.trans (Upon.below (hB2.mono (Nat.le_of_lt E.hlt)))
  replace E := E.below hB2
  clear hB2 U1
  go_wp2_with fail
  refine (latestB b v bn bj ms sl ms.length _ _ E.bk E.mr (Nat.le_refl _) (by omega)).mono ?_
  rintro e w3 ⟨he, hB3⟩
  have U3 := U2.trans (Upon.below (hB3.mono (Nat.le_of_lt E.hlt)))
  replace E := E.below hB3
  clear hB3 U2
  obtain ⟨kz, hkz⟩ : ∃ kz, kz = latI (latB ms (nameL c1) ms.length) := ⟨_, rfl⟩
  rw [← hkz] at he
  subst he
  have HK : Hid (kz = latI (latB ms (nameL c1) ms.length)) := hkz
  clear hkz
  -- the way to 'single'
  have SING : ∀ (w9 : World), Env b f h v bn bj ms sl (.slice oa on.length oc) on m ps T i1 w9 → Calls Tryz.prog 110 #[.pointer (some ⟨b, 0, none⟩), .pointer (some ⟨h, 0, none⟩)] w9 fun e w' => e = .returned (.tuple #[]) ∧ ∃ pa pn pc, Env b f h v bn bj ms sl (.slice oa on.length oc) on { m with pa := pa, pn := pn, pc := pc } (ps ++ sglP ms m.batch m.job.name) T i1 w' ∧ Upon f h w9 w' := by
    intro w9 E9
    refine (singleB b h v bn bj ms sl m ps w9 E9.bk E9.mr E9.bh E9.vh hl E9.md E9.pt (by omega)).mono ?_
    rintro e w' ⟨rfl, pa, pn, pc, p1, p2, p3⟩
    exact ⟨rfl, pa, pn, pc, E9.next p3 p1 p2, Upon.below p3⟩
  have HSG : Hid _ := SING
  clear SING
  have hb0 := E.bk.c 0
  simp at hb0
  have hm0 := E.md.c 0
  simp [mvC] at hm0
  -- the test
  go_upto_region 3 with fail
  go_cut [41] (fun s41 wx => s41 = .bool (tstB ms m.batch c1) ∧ ∃ n, wx = w3.drewN n)
  case first =>
    cases hk : latB ms (nameL c1) ms.length with
    | none =>
      have hkz : kz = -1 := by rw [HK.out, hk]; rfl
      have HT : Hid (tstB ms m.batch c1 = false) := by show _ = _; unfold tstB; rw [hk]
      clear hk HK
      subst hkz
      go_quiet (fail)
      go_wp2_with fail
      go_meet
      case rel => exact ⟨by rw [HT.out], _, rfl⟩
    | some k =>
      have hkz : kz = (k : Int) := by rw [HK.out, hk]; rfl
      obtain ⟨q1, q2, q3⟩ := latB_some hk
      have HT : Hid (tstB ms m.batch c1 = decide ((ms.getD k mb0).batch < m.batch)) := by show _ = _; unfold tstB; rw [hk]
      clear hk HK q1 q3
      subst hkz
      rcases E.mr.b with ⟨_, hms⟩ | ⟨g, cap, rfl, hcap, hgl, hcell⟩
      · rw [hms] at q2; simp at q2
      have l0 := hcell k q2 0 (by omega)
      have hlk : (k : Int) < (ms.length : Int) := by omega
      have HC : Hid _ := hcell
      clear hcell
      simp only [mvC, toMV] at l0
      simp at l0
      rw [show (ms[k]?.getD mb0) = ms.getD k mb0 from by simp] at l0
      by_cases hbt : (ms.getD k mb0).batch < m.batch
      · rw [decide_eq_true hbt] at HT
        have hbt' : ((ms.getD k mb0).batch : Int) < (m.batch : Int) := by omega
        generalize (ms.getD k mb0).batch = yb at *
        go_quiet (fail)
        go_wp2_with fail
        go_meet
        case rel => exact ⟨by rw [HT.out], _, rfl⟩
      · rw [decide_eq_false hbt] at HT
        have hbt' : ¬ ((ms.getD k mb0).batch : Int) < (m.batch : Int) := by omega
        generalize (ms.getD k mb0).batch = yb at *
        go_quiet (fail)
        go_wp2_with fail
        go_meet
        case rel => exact ⟨by rw [HT.out], _, rfl⟩
  case rest =>
    obtain ⟨rfl, n0, rfl⟩ := hcut
    replace E := E.drewN n0
    replace U3 := U3.trans (Upon.below (below_drewN (Below.refl h w3) n0))
    replace hb0 : (w3.drewN n0).cell? ⟨b, 0, none⟩ = _ := hb0
    replace hm0 : (w3.drewN n0).cell? ⟨h, 0, none⟩ = _ := hm0
    generalize w3.drewN n0 = w4 at *
    go_upto_if 41 with fail
    go_cut [12] (fun s12 wx => s12 = .int .i64 (latI A) ∧ ∃ n, wx = w4.drewN n)
    case first =>
      cases ht : tstB ms m.batch c1 with
      | false =>
        have HKA : Hid (kz = latI A) := by show _ = _; rw [HK.out, HA.out, tst_false ht]
        clear ht
        go_wp2_with fail
        go_meet
        case rel => exact ⟨by rw [HKA.out], 0, rfl⟩
      | true =>
        obtain ⟨k, hk1, hk2⟩ := tst_true ht
        obtain ⟨q1, q2, q3⟩ := latB_some hk1
        have hkz : kz = (k : Int) := by rw [HK.out, hk1]; rfl
        have HO : Hid (A = if (ms.getD k mb0).job.name ∈ on then none else some k) := by show _ = _; rw [HA.out, ask_own hk1 hk2]
        clear ht HK hk1 hk2 q1 q3
        subst hkz
        rcases E.mr.b with ⟨_, hms⟩ | ⟨g, cap, rfl, hcap, hgl, hcell⟩
        · rw [hms] at q2; simp at q2
        have l1 := hcell k q2 1 (by omega)
        have hlk : (k : Int) < (ms.length : Int) := by omega
        have HC : Hid _ := hcell
        clear hcell
        simp only [mvC, toMV] at l1
        generalize (ms.getD k mb0).job.name = kn at *
        simp at l1
        go_wp2_with fail
        go_loopg [12, 13] (on.length + 1) (fun r x z wr => ∃ (j n : Nat), j ≤ on.length ∧ r = on.length - j + 1 ∧ x = .int .i64 (k : Int) ∧ z = .int .i64 (j : Int) ∧ wr = w4.drewN n ∧ Hid (∀ q, q < j → on.getD q [] ≠ kn))
        case atStart => exact ⟨0, 0, Nat.zero_le _, rfl, rfl, rfl, rfl, fun q hq => by omega⟩
        case round =>
          obtain ⟨j, n, hj, rfl, rfl, rfl, rfl, HN⟩ := hrel
          by_cases hlt : j < on.length
          · have hlt' : (j : Int) < (on.length : Int) := by omega
            rcases E.ow with ⟨_, hon⟩ | ⟨og, ocap, hq, hoc, hog, hocell⟩
            · rw [hon] at hlt; simp at hlt
            cases hq
            have oi := hocell j hlt
            clear hocell
            have hb2 : ((bs on[j]).toList == (bs kn).toList) = (on[j] == kn) := by rw [bs_toList, bs_toList]
            cases he : (on[j] == kn) with
            | true =>
              rw [he] at hb2
              have HX : Hid (A = none) := by
                show _ = _
                rw [HO.out, if_pos]
                have : on[j] = kn := by simpa using he
                rw [← this]; exact List.getElem_mem hlt
              clear he
              go_wp2_with fail
              go_quiet (fail)
              go_wp2_with fail
              go_meet
              case rel => exact ⟨by rw [HX.out]; rfl, n + nq, by simp [World.drewN, Nat.add_assoc]⟩
            | false =>
              rw [he] at hb2
              have HN2 : Hid (∀ q, q < j + 1 → on.getD q [] ≠ kn) := by
                intro q hq
                by_cases e : q = j
                · subst e
                  rw [show on.getD q [] = on[q] from by simp [hlt]]
                  simpa using he
                · exact HN.out q (by omega)
              clear he
              go_wp2_with fail
              go_quiet (fail)
              go_wp2_with fail
              go_roundg (on.length - (j + 1) + 1)
              case measure => omega
              case rel => exact ⟨j + 1, _, by omega, rfl, rfl, by go_num, rfl, HN2⟩
          · have hlt' : decide ((j : Int) < (on.length : Int)) = false := by simp; omega
            have HX : Hid (A = some k) := by
              show _ = _
              rw [HO.out, if_neg]
              intro q
              obtain ⟨x, hx, hx2⟩ := List.getElem_of_mem q
              refine HN.out x (by omega) ?_
              rw [← hx2]; simp [hx]
            go_wp2_with fail
            go_meet
            case rel => exact ⟨by rw [HX.out]; rfl, _, rfl⟩
    case rest =>
      obtain ⟨rfl, n1, rfl⟩ := hcut
      replace E := E.drewN n1
      replace U3 := U3.trans (Upon.below (below_drewN (Below.refl h w4) n1))
      replace hb0 : (w4.drewN n1).cell? ⟨b, 0, none⟩ = _ := hb0
      clear hm0 HK
      generalize w4.drewN n1 = wz at *
      cases A with
      | none =>
        rw [show latI none = -1 from rfl]
        go_wp2_with fail
        refine (HSG.out _ E).mono ?_
        rintro e w6 ⟨rfl, pa, pn, pc, E6, U6⟩
        go_wp2_with fail
        go_ret
        refine ⟨pa, pn, pc, by rw [HR.out]; rfl, ?_, U3.trans U6⟩
        rw [HR.out]
        exact E6
      | some k =>
        rw [show latI (some k) = (k : Int) from rfl]
        obtain ⟨qa, _⟩ := askB_some HA.out.symm
        obtain ⟨_, q2, _⟩ := latB_some qa
        have hgk := hg _ (getD_mem q2)
        have hkl' : (k : Int) < (ms.length : Int) := by omega
        obtain ⟨y, hy⟩ : ∃ y, y = toMV (ms.getD k mb0) (sl k) := ⟨_, rfl⟩
        have e1 : (ms.getD k mb0).job = y.job := by rw [hy]; rfl
        have e2 : (ms.getD k mb0).first = y.first := by rw [hy]; rfl
        have e3 : (ms.getD k mb0).count = y.count := by rw [hy]; rfl
        have HR2 := HR.out
        unfold atomG at HR2
        dsimp only at HR2
        rw [e1, e2, e3] at HR2
        have gj : JobOK y.job := by rw [← e1]; exact hgk.1.job
        have gc1 : 1 ≤ y.count := by rw [← e3]; exact hgk.1.c1
        have gc6 : y.count ≤ 6 := by rw [← e3]; exact hgk.1.c6
        have gar : y.job.arr = true → y.job.lo + y.count = y.job.hi + 1 := by rw [← e1, ← e3]; exact hgk.1.ar
        have gfi : y.first ≤ 1000 := by rw [← e2]; exact hgk.2.1
        have HR3 : Hid (R = _) := HR2
        clear HR HR2 HA qa hgk e1 e2 e3
        rcases E.mr.b with ⟨_, hms⟩ | ⟨g, cap, rfl, hcap, hgl, hcell⟩
        · rw [hms] at q2; simp at q2
        have hgh : g < h := E.vh g rfl
        have l0 := hcell k q2 0 (by omega); have l1 := hcell k q2 1 (by omega); have l2 := hcell k q2 2 (by omega); have l3 := hcell k q2 3 (by omega); have l4 := hcell k q2 4 (by omega); have l5 := hcell k q2 5 (by omega); have l6 := hcell k q2 6 (by omega); have l7 := hcell k q2 7 (by omega); have l8 := hcell k q2 8 (by omega); have l9 := hcell k q2 9 (by omega); have l10 := hcell k q2 10 (by omega); have l11 := hcell k q2 11 (by omega)
        rw [← hy] at l0 l1 l2 l3 l4 l5 l6 l7 l8 l9 l10 l11
        have HC : Hid _ := hcell
        clear hcell hy hgl
        simp [mvC] at l0 l1 l2 l3 l4 l5 l6 l7 l8 l9 l10 l11
        go_upto_region 15 with fail
        have YG : ((wz.alloc (.cells #[.int .i64 (y.batch : Int), .string (bs y.job.name), .int .i64 (y.job.nodes : Int), .int .i64 (y.job.time : Int), .bool y.job.arr, .int .i64 (y.job.lo : Int), .int .i64 (y.job.hi : Int), .string (bs y.job.after), .int .i64 (y.first : Int), .int .i64 (y.count : Int), .string (bs y.want), .slice y.pa y.pn y.pc] 87)).alloc (.cells #[.int .i64 0, .int .i64 (y.first : Int), .int .i64 (y.count : Int)] 140)).heap[wz.heap.size]? = some (.cells #[.int .i64 (y.batch : Int), .string (bs y.job.name), .int .i64 (y.job.nodes : Int), .int .i64 (y.job.time : Int), .bool y.job.arr, .int .i64 (y.job.lo : Int), .int .i64 (y.job.hi : Int), .string (bs y.job.after), .int .i64 (y.first : Int), .int .i64 (y.count : Int), .string (bs y.want), .slice y.pa y.pn y.pc] 87 (0, 0)) := whole_alloc (whole_new wz (.cells #[.int .i64 (y.batch : Int), .string (bs y.job.name), .int .i64 (y.job.nodes : Int), .int .i64 (y.job.time : Int), .bool y.job.arr, .int .i64 (y.job.lo : Int), .int .i64 (y.job.hi : Int), .string (bs y.job.after), .int .i64 (y.first : Int), .int .i64 (y.count : Int), .string (bs y.want), .slice y.pa y.pn y.pc] 87 (0, 0))) _
        have YP : ((wz.alloc (.cells #[.int .i64 (y.batch : Int), .string (bs y.job.name), .int .i64 (y.job.nodes : Int), .int .i64 (y.job.time : Int), .bool y.job.arr, .int .i64 (y.job.lo : Int), .int .i64 (y.job.hi : Int), .string (bs y.job.after), .int .i64 (y.first : Int), .int .i64 (y.count : Int), .string (bs y.want), .slice y.pa y.pn y.pc] 87)).alloc (.cells #[.int .i64 0, .int .i64 (y.first : Int), .int .i64 (y.count : Int)] 140)).heap[wz.heap.size + 1]? = some (.cells #[.int .i64 0, .int .i64 (y.first : Int), .int .i64 (y.count : Int)] 140 (0, 0)) := by
          have := whole_new (wz.alloc (.cells #[.int .i64 (y.batch : Int), .string (bs y.job.name), .int .i64 (y.job.nodes : Int), .int .i64 (y.job.time : Int), .bool y.job.arr, .int .i64 (y.job.lo : Int), .int .i64 (y.job.hi : Int), .string (bs y.job.after), .int .i64 (y.first : Int), .int .i64 (y.count : Int), .string (bs y.want), .slice y.pa y.pn y.pc] 87)) (.cells #[.int .i64 0, .int .i64 (y.first : Int), .int .i64 (y.count : Int)] 140 (0, 0))
          rw [World.size_alloc] at this; exact this
        have hgb := E.hlt
        have hro : (Value.slice m.pa m.pn m.pc).ownBlock ≠ some (wz.heap.size + 1) := by
          intro q; have := (E.pt.lt _ q).2; omega
        replace E := (E.alloc (.cells #[.int .i64 (y.batch : Int), .string (bs y.job.name), .int .i64 (y.job.nodes : Int), .int .i64 (y.job.time : Int), .bool y.job.arr, .int .i64 (y.job.lo : Int), .int .i64 (y.job.hi : Int), .string (bs y.job.after), .int .i64 (y.first : Int), .int .i64 (y.count : Int), .string (bs y.want), .slice y.pa y.pn y.pc] 87)).alloc (.cells #[.int .i64 0, .int .i64 (y.first : Int), .int .i64 (y.count : Int)] 140)
        replace U3 := U3.trans (Upon.below (((Below.refl h wz).alloc (by omega) (.cells #[.int .i64 (y.batch : Int), .string (bs y.job.name), .int .i64 (y.job.nodes : Int), .int .i64 (y.job.time : Int), .bool y.job.arr, .int .i64 (y.job.lo : Int), .int .i64 (y.job.hi : Int), .string (bs y.job.after), .int .i64 (y.first : Int), .int .i64 (y.count : Int), .string (bs y.want), .slice y.pa y.pn y.pc] 87)).alloc (by simp; omega) (.cells #[.int .i64 0, .int .i64 (y.first : Int), .int .i64 (y.count : Int)] 140)))
        clear l0 l1 l2 l3 l4 l5 l6 l7 l8 l9 l10 l11 hb0
        generalize (wz.alloc (.cells #[.int .i64 (y.batch : Int), .string (bs y.job.name), .int .i64 (y.job.nodes : Int), .int .i64 (y.job.time : Int), .bool y.job.arr, .int .i64 (y.job.lo : Int), .int .i64 (y.job.hi : Int), .string (bs y.job.after), .int .i64 (y.first : Int), .int .i64 (y.count : Int), .string (bs y.want), .slice y.pa y.pn y.pc] 87)).alloc (.cells #[.int .i64 0, .int .i64 (y.first : Int), .int .i64 (y.count : Int)] 140) = x at *
        generalize hgbe : wz.heap.size = gb at *
        clear hgbe
        have hfh := E.fh
        go_cut [80] (fun s80 wx => ∃ (k3 i2 : Nat), s80 = .int .i64 (k3 : Int) ∧ k3 < 3 ∧ Hid (k3 = nxV T.data.toList i1 3) ∧ Hid (i2 = nxI T.data.toList i1) ∧ Env b f h (.slice (some ⟨g, 0, none⟩) ms.length cap) bn bj ms sl (.slice oa on.length oc) on m ps T i2 wx ∧ Upon f h w wx ∧ wx.heap[gb]? = x.heap[gb]? ∧ wx.heap[gb + 1]? = x.heap[gb + 1]?)
        case first =>
          go_wp2_with fail
          refine (nextB f 3 T i1 _ E.fd (by omega) (by omega)).mono ?_
          rintro e x1 ⟨rfl, hf1, ha1⟩
          have U4 := U3.trans (Upon.aside ha1 (Nat.le_of_lt E.hlt))
          have E4 := E.feed ha1 hf1
          have b1 := ha1.block gb (whole_lt YG) (by omega)
          have b2 := ha1.block (gb + 1) (whole_lt YP) (by omega)
          clear ha1 hf1 E U3
          go_wp2_with fail
          go_meet
          case rel => exact ⟨_, _, rfl, nxV_lt _ _ (by omega), rfl, rfl, E4, U4, b1, b2⟩
        case rest =>
        obtain ⟨k3, i2, rfl, hk33, hk3, hi2, E4, U4, b1, b2⟩ := hcut
        rename World => x1
        replace YG := b1.trans YG
        replace YP := b2.trans YP
        have hk3' := hk3.out
        have hi2' := hi2.out
        rw [← hk3', ← hi2'] at HR3
        clear hk3 hi2 hk3' hi2' b1 b2 E U3
        have yg1 := whole_cell YG 1; have yg4 := whole_cell YG 4
        have yp0 := whole_cell YP 0; have zp0 := whole_frozen YP 0
        simp at yg1 yg4 yp0
        have hsn := bs_size y.job.name
        have hj6 := gj.nm6
        have hge : gb ≠ gb + 1 := by omega
        obtain ⟨o1, ho1⟩ : ∃ o1, o1 = k3 + 1 := ⟨_, rfl⟩
        rw [← ho1] at HR3
        have HO1 : Hid (o1 = k3 + 1) := ho1
        clear ho1
        go_step
        go_cut [16] (fun s16 wx => ∃ t0, s16 = .string (bs t0) ∧ Hid (t0 = opW k3 ++ y.job.name) ∧ wx = x1.setCell ⟨gb + 1, 0, none⟩ (.int .i64 (o1 : Int)))
        case first =>
          have h3 : k3 = 0 ∨ k3 = 1 ∨ k3 = 2 := by omega
          clear hk33 HR3 E4 U4
          have ho1 := HO1.out
          clear HO1
          rcases h3 with rfl | rfl | rfl
          all_goals
            subst ho1
            go_wp2_with fail
            go_meet
            case rel => exact ⟨opW _ ++ y.job.name, by rw [← bs_append]; rfl, rfl, rfl⟩
        case rest =>
        obtain ⟨t0, rfl, HT0, rfl⟩ := hcut
        have hso := bs_size t0
        have hsl : t0.length ≤ 10 := by have := opW_len k3; rw [HT0.out, List.length_append]; omega
        go_upto_region 24 with fail
        have E5 := E4.setCell (p := ⟨gb + 1, 0, none⟩) (by show h < gb + 1; omega) hro (.int .i64 (o1 : Int))
        have U5 := U4.trans (Upon.below ((Below.refl h x1).setCell (p := ⟨gb + 1, 0, none⟩) (by show h ≤ gb + 1; omega) (.int .i64 (o1 : Int))))
        have YPP := whole_set YP 0 (.int .i64 (o1 : Int))
        have YGG := whole_set_ne YG ⟨gb + 1, 0, none⟩ (by show gb + 1 ≠ gb; omega) (.int .i64 (o1 : Int))
        simp at YPP
        clear E4 U4 YP YG yg1 yg4 yp0 zp0
        generalize x1.setCell ⟨gb + 1, 0, none⟩ (.int .i64 (o1 : Int)) = x2 at *
        have yg4 := whole_cell YGG 4
        simp at yg4
        go_cut [107] (fun s107 wx => ∃ (bb : Bool) (i3 : Nat), s107 = .bool bb ∧ Hid (R = if bb then (.rf k3 y.job.name (some (y.job.lo + nxV T.data.toList i3 y.count)), [(o1, y.first + nxV T.data.toList i3 y.count, 1)], nxI T.data.toList i3) else (.rf k3 y.job.name none, [(o1, y.first, y.count)], i3)) ∧ (bb = true → y.job.arr = true) ∧ Env b f h (.slice (some ⟨g, 0, none⟩) ms.length cap) bn bj ms sl (.slice oa on.length oc) on m ps T i3 wx ∧ Upon f h w wx ∧ wx.heap[gb]? = x2.heap[gb]? ∧ wx.heap[gb + 1]? = x2.heap[gb + 1]?)
        case first =>
          cases harr : y.job.arr with
          | false =>
            rw [harr] at yg4
            have HR4 : Hid (R = _) := HR3.out.trans (if_neg (by rw [harr]; decide))
            clear harr HR3
            go_wp2_with fail
            go_meet
            case rel => exact ⟨false, i2, rfl, HR4, by simp, E5, U5, rfl, rfl⟩
          | true =>
            rw [harr] at yg4
            have HR4 : Hid (R = _) := HR3.out.trans (if_pos harr)
            have HAR : Hid (y.job.arr = true) := harr
            clear harr HR3
            go_wp2_with fail
            refine (nextB f 2 T i2 _ E5.fd (by omega) (by omega)).mono ?_
            rintro e x3 ⟨he, hf2, ha2⟩
            replace U5 := U5.trans (Upon.aside ha2 (Nat.le_of_lt E5.hlt))
            replace E5 := E5.feed ha2 hf2
            have b1 := ha2.block (gb + 1) (whole_lt YPP) (by omega)
            have b2 := ha2.block gb (whole_lt YGG) (by omega)
            clear ha2 hf2
            have hk2l : nxV T.data.toList i2 2 < 2 := nxV_lt _ _ (by omega)
            by_cases hkk : nxV T.data.toList i2 2 = 1
            · rw [hkk] at he
              subst he
              have HR5 : Hid (R = _) := HR4.out.trans (if_pos hkk)
              clear HR4 hkk hk2l
              go_wp2_with fail
              go_meet
              case rel => exact ⟨true, _, rfl, HR5, fun _ => HAR.out, E5, U5, b2, b1⟩
            · have hk0 : nxV T.data.toList i2 2 = 0 := by omega
              rw [hk0] at he
              subst he
              have HR5 : Hid (R = _) := HR4.out.trans (if_neg hkk)
              clear HR4 hkk hk2l hk0
              go_wp2_with fail
              go_meet
              case rel => exact ⟨false, _, rfl, HR5, by simp, E5, U5, b2, b1⟩
        case rest =>
          obtain ⟨bb, i3, rfl, HRb, hba, E6, U6, b2, b1⟩ := hcut
          rename World => x3
          replace YGG := b2.trans YGG
          replace YPP := b1.trans YPP
          clear b1 b2 E5 U5 yg4 HR3
          go_upto_if 107 with fail
          go_cut [16] (fun s16 wx => ∃ (t : List UInt8) (q0 q1 q2 : Nat) (i4 : Nat), s16 = .string (bs t) ∧ Hid (txW R.1 = t ∧ R.2.1 = [(q0, q1, q2)] ∧ R.2.2 = i4) ∧ Env b f h (.slice (some ⟨g, 0, none⟩) ms.length cap) bn bj ms sl (.slice oa on.length oc) on m ps T i4 wx ∧ Upon f h w wx ∧ wx.heap[gb + 1]? = some (.cells #[.int .i64 (q0 : Int), .int .i64 (q1 : Int), .int .i64 (q2 : Int)] 140 (0, 0)))
          case first =>
            cases bb with
            | false =>
              have HRc : Hid (R = (.rf k3 y.job.name none, [(o1, y.first, y.count)], i3)) := HRb
              clear HRb
              go_wp2_with fail
              go_meet
              case rel => exact ⟨t0, o1, y.first, y.count, i3, rfl, by rw [HRc.out, HT0.out]; exact ⟨rfl, rfl, rfl⟩, E6, U6, YPP⟩
            | true =>
              have harr := hba rfl
              have HRc : Hid (R = (.rf k3 y.job.name (some (y.job.lo + nxV T.data.toList i3 y.count)), [(o1, y.first + nxV T.data.toList i3 y.count, 1)], nxI T.data.toList i3)) := HRb
              clear HRb hba
              have yg5 := whole_cell YGG 5; have yg8 := whole_cell YGG 8; have yg9 := whole_cell YGG 9
              simp at yg5 yg8 yg9
              go_wp2_with fail
              refine (nextB f y.count T i3 _ E6.fd (by omega) (by omega)).mono ?_
              rintro e x4 ⟨he, hf3, ha3⟩
              replace U6 := U6.trans (Upon.aside ha3 (Nat.le_of_lt E6.hlt))
              replace E6 := E6.feed ha3 hf3
              replace YPP := (ha3.block (gb + 1) (whole_lt YPP) (by omega)).trans YPP
              replace YGG := (ha3.block gb (whole_lt YGG) (by omega)).trans YGG
              clear ha3 hf3 yg5 yg8 yg9
              obtain ⟨k5, hk5⟩ : ∃ k5, k5 = nxV T.data.toList i3 y.count := ⟨_, rfl⟩
              have hk5l : k5 < y.count := by rw [hk5]; exact nxV_lt _ _ (by omega)
              rw [← hk5] at he HRc
              subst he
              clear hk5
              have yg5 := whole_cell YGG 5; have yg8 := whole_cell YGG 8
              have yp1 := whole_cell YPP 1; have yp2 := whole_cell YPP 2; have zp1 := whole_frozen YPP 1; have zp2 := whole_frozen YPP 2
              simp at yg5 yg8 yp1 yp2
              have ga := gar harr
              have gb2 := (gj.arr harr).2.2
              have hlo : y.job.lo + k5 ≤ 12 := by omega
              have hlo1 : (y.job.lo : Int) ≤ 12 := by omega
              have hk51 : (k5 : Int) ≤ 6 := by omega
              have hfi : (y.first : Int) ≤ 1000 := by omega
              clear harr
              go_wp2_with fail
              have E7 := (E6.setCell (p := ⟨gb + 1, 1, none⟩) (by show h < gb + 1; omega) hro (.int .i64 ((y.first : Int) + (k5 : Int)))).setCell (p := ⟨gb + 1, 2, none⟩) (by show h < gb + 1; omega) hro (.int .i64 1)
              have U7 := U6.trans (Upon.below (((Below.refl h x4).setCell (p := ⟨gb + 1, 1, none⟩) (by show h ≤ gb + 1; omega) (.int .i64 ((y.first : Int) + (k5 : Int)))).setCell (p := ⟨gb + 1, 2, none⟩) (by show h ≤ gb + 1; omega) (.int .i64 1)))
              have YP6 := whole_set (whole_set YPP 1 (.int .i64 ((y.first : Int) + (k5 : Int)))) 2 (.int .i64 1)
              simp at YP6
              clear E6 U6 YPP
              rw [show (y.job.lo : Int) + (k5 : Int) = ((y.job.lo + k5 : Nat) : Int) from by omega]
              refine (itoa_any (y.job.lo + k5) hlo _).mono ?_
              rintro e x5 ⟨rfl, hx5⟩
              subst hx5
              have hsd := bs_size (dig2 (y.job.lo + k5))
              have hsd2 := dig2_len (y.job.lo + k5)
              go_wp2_with fail
              go_meet
              case rel => exact ⟨t0 ++ [91] ++ dig2 (y.job.lo + k5) ++ [93], o1, y.first + k5, 1, _, by rw [← bs_append, ← bs_append, ← bs_append]; rfl, by rw [HRc.out, HT0.out]; exact ⟨by simp [txW], rfl, rfl⟩, E7, U7, by rw [YP6]; simp⟩
          case rest =>
            obtain ⟨t, q0, q1, q2, i4, rfl, HRd, E7, U7, YQ⟩ := hcut
            rename World => z
            clear HRb E6 U6 YGG YPP hba
            have hown := E7.pt
            unfold PtsB at hown
            have hpl : ps.length ≤ 900 := hc
            obtain ⟨n', hn'⟩ : ∃ n', n' = ps.length := ⟨_, rfl⟩
            obtain ⟨xs', hxs'⟩ : ∃ xs', xs' = flatPt ps := ⟨_, rfl⟩
            rw [← hn', ← hxs'] at hown
            rw [← hn'] at hpl
            have HN' : Hid (n' = ps.length) := hn'
            have HX' : Hid (xs' = flatPt ps) := hxs'
            clear hn' hxs'
            have md := E7.md
            have hhx := md.lt
            have hyx := whole_lt YQ
            have y0 := whole_cell YQ 0; have y1 := whole_cell YQ 1; have y2 := whole_cell YQ 2
            simp at y0 y1 y2
            have m11 := md.c 11; have z11 := md.z 11
            simp [mvC] at m11
            have ah : (Value.slice m.pa m.pn m.pc).ownBlock ≠ some h := by intro q; have := (hown.lt h q).1; omega
            have fz : ∀ o, (z.alloc o).drew.frozen? ⟨h, 11, none⟩ = false := fun o => whole_frozen (w := (z.alloc o).drew) (whole_alloc md o) 11
            go_upto_region 29 with fail
            go_cut [16] (fun s16 wx => s16 = .string (bs t) ∧ ∃ pa pn pc, Env b f h (.slice (some ⟨g, 0, none⟩) ms.length cap) bn bj ms sl (.slice oa on.length oc) on { m with pa := pa, pn := pn, pc := pc } (ps ++ [(q0, q1, q2)]) T i4 wx ∧ Upon f h w wx)
            case first =>
              go_region_law
                ((refine step_append_lies _ (by rfl) _ _ _ (by rfl) (h + 1) 140 i0 _ 3 24 Tryz.underlying85 hI0 hz0 hz1 hz2 rfl (by omega) (.slice m.pa m.pn m.pc) n' xs' (by rfl) ((hown.alloc _).drew)
                    ⟨z.heap.size, 0, none⟩ 1 1 [.int .i64 (q0 : Int), .int .i64 (q1 : Int), .int .i64 (q2 : Int)] (by rfl) (by rfl) (World.news_of_block (cs := #[.int .i64 (q0 : Int), .int .i64 (q1 : Int), .int .i64 (q2 : Int)]) (t := 140) (fr := (0, 0)) (heap_alloc_new z _)) (by simp [Value.oneCell'])
                    (by omega) (by unfold maxLen; omega) (by omega) (by simp; omega) (z.heap.size + 1) (by simp) ?_; intro g3 cap3 w33 hown3 hgrow3 hat3 hlt3; have m3 : Md h m w33 := (hgrow3.block h (by simp; omega) (Ne.symm ah)).trans (whole_alloc md _); have m3c := m3.c 11; have m3z := m3.z 11; simp [mvC] at m3c))
              all_goals
                obtain ⟨p1, p2, p3, p4, p5⟩ := parts_grow (m := m) (x := (z.alloc (.cells #[.int .i64 (q0 : Int), .int .i64 (q1 : Int), .int .i64 (q2 : Int)] 140)).drew) (whole_alloc md _) ((hown.alloc _).drew) hgrow3 hown3
                replace p5 := ((Below.refl h z).alloc (by omega) _).drew.trans p5
                clear hgrow3 hat3 m3 m3z p1 p2 fz
                have E8 := E7.grow p5 p3 p4 HN'.out HX'.out
                have U8 := U7.trans (Upon.below p5)
                go_wp2_with fail
                go_meet
                case rel => exact ⟨rfl, _, _, _, E8, U8⟩
            case rest =>
              obtain ⟨rfl, pa, pn, pc, E8, U8⟩ := hcut
              clear hown md hhx hyx y0 y1 y2 m11 z11 ah fz YQ
              go_wp2_with fail
              go_ret
              obtain ⟨d1, d2, d3⟩ := HRd.out
              refine ⟨pa, pn, pc, by rw [d1]; rfl, ?_, U8⟩
              rw [d2, d3]
              exact E8
end Go.Proofs.YtanknpmojblmcaaGreatDoor

/-
  The book's walk: a want.
-/
set_option linter.unusedSimpArgs false
set_option linter.unusedVariables false
namespace Go.Proofs.YtanknpmojblmcaaGreatDoor
open Go.RowKit

def kQ : Nat → Nat
  | 0 => 81
  | d + 1 => 2 * kQ d + 1
theorem sglP_len {ms : List MB} (hl : ms.length ≤ 40) (hb : Nat) (nm : List UInt8) : (sglP ms hb nm).length ≤ 81 := by
  rw [sglP_eq]
  have := sglN_len ms hb nm ms.length (Nat.le_refl _)
  simp; omega
theorem atomF_len {ms : List MB} (hl : ms.length ≤ 40) (own : List (List UInt8)) (hb : Nat) (nm T : List UInt8) (i : Nat) : (atomF ms own hb nm T i).2.1.length ≤ 81 := by
  unfold atomF
  split
  · exact sglP_len hl hb nm
  · split
    · split
      · simp
      · simp
    · simp
theorem kQ_81 (d : Nat) : 81 ≤ kQ d := by
  induction d with
  | zero => exact Nat.le_refl _
  | succ d ih => unfold kQ; omega
theorem wantB_len {ms : List MB} (hl : ms.length ≤ 40) (own : List (List UInt8)) (hb : Nat) (nm T : List UInt8) : ∀ d i, (wantB ms own hb nm T d i).2.1.length ≤ kQ d := by
  intro d
  induction d with
  | zero => intro i; unfold wantB; exact atomF_len hl own hb nm T _
  | succ d ih =>
    intro i
    have h81 := kQ_81 d
    unfold wantB
    split
    · have := atomF_len hl own hb nm T (nxI T i)
      unfold kQ; omega
    · have h1 := ih (nxI T i)
      have h2 := ih (wantB ms own hb nm T d (nxI T i)).2.2
      simp only [List.length_append, List.length_cons, List.length_nil]
      unfold kQ; omega
theorem wantB_tx {ms : List MB} (hg : ∀ m ∈ ms, GoodB m) (own : List (List UInt8)) (hb : Nat) (nm T : List UInt8) (d i : Nat) : (txW (wantB ms own hb nm T d i).1).length ≤ kX d := by
  obtain ⟨a, b, _⟩ := wantB_ok (own := own) (hb := hb) (nm := nm) (T := T) hg d i
  exact (tree_gen _ d a b).2.1

def WantE (d : Nat) : Prop := ∀ (b f h : Nat) (v : Value) (bn bj : Nat) (ms : List MB) (sl : Nat → Sl) (ov : Value) (on : List (List UInt8)) (m : MV) (ps : List (Nat × Nat × Nat)) (T : ByteArray) (i : Nat) (w : World), Env b f h v bn bj ms sl ov on m ps T i w → ps.length + kQ d ≤ 900 → ms.length ≤ 40 → on.length ≤ 3 → (∀ x ∈ ms, SmlB x) → m.batch ≤ 100 →
    Calls Tryz.prog 39 #[.pointer (some ⟨b, 0, none⟩), .pointer (some ⟨f, 0, none⟩), .int .i64 (d : Int), .int .i64 (ms.length : Int), ov, .pointer (some ⟨h, 0, none⟩)] w (AtmB b f h v bn bj ms sl ov on m ps T w (wantB ms on m.batch m.job.name T.data.toList d i))

attribute [local go_sem ↓] Go.wp_at_zero Go.wp_at_succ
set_option maxRecDepth 100000 in
set_option maxHeartbeats 4000000 in
theorem want_zeroE : WantE 0 := by
  intro b f h v bn bj ms sl ov on m ps T i w E hc hl hol hg hmb
  have HR : Hid (wantB ms on m.batch m.job.name T.data.toList 0 i = atomF ms on m.batch m.job.name T.data.toList (nxI T.data.toList i)) := rfl
  rw [HR.out]
  have hc13 : ps.length + 81 ≤ 900 := hc
  have U0 := Upon.refl f h w
  unfold AtmB
  go_enter Tryz.func39, Tryz.ntmps39
  go_wp2_with fail
  refine (nextB f 6 T i _ E.fd (by omega) (by omega)).mono ?_
  rintro e w1 ⟨rfl, hf1, ha1⟩
  have U1 := U0.trans (Upon.aside ha1 (Nat.le_of_lt E.hlt))
  replace E := E.feed ha1 hf1
  clear ha1 hf1
  generalize nxV T.data.toList i 6 = k at *
  go_wp2_with fail
  refine (atomB b f h v bn bj ms sl ov on m ps T (nxI T.data.toList i) _ E (by omega) hl hol hg hmb).mono ?_
  rintro e w2 ⟨pa, pn, pc, rfl, E2, U2⟩
  go_wp2_with fail
  go_ret
  exact ⟨pa, pn, pc, rfl, E2, U1.trans U2⟩

set_option maxRecDepth 100000 in
set_option maxHeartbeats 4000000 in
theorem want_succE (d : Nat) (hd : d ≤ 3) (ih : WantE d) : WantE (d + 1) := by
  intro b f h v bn bj ms sl ov on m ps T i w E hc hl hol hg hmb
  obtain ⟨i0, hI0, hz0, hz1, hz2⟩ := info_parts infoPart
  have U0 := Upon.refl f h w
  have h81 := kQ_81 d
  have hkq : kQ (d + 1) = 2 * kQ d + 1 := rfl
  rw [hkq] at hc
  have hXmax : kX d ≤ 200 := by
    have : d = 0 ∨ d = 1 ∨ d = 2 ∨ d = 3 := by omega
    rcases this with rfl | rfl | rfl | rfl <;> decide
  have hg2 : ∀ x ∈ ms, GoodB x := fun x hx => (hg x hx).1
  obtain ⟨R, hR⟩ : ∃ R, R = wantB ms on m.batch m.job.name T.data.toList (d + 1) i := ⟨_, rfl⟩
  rw [← hR]
  unfold wantB at hR
  have hls := wantB_len hl on m.batch m.job.name T.data.toList d
  have hlt := wantB_tx hg2 on m.batch m.job.name T.data.toList d
  have HLS : Hid _ := hls
  have HLT : Hid _ := hlt
  clear hls hlt hg2
  have hd0 : (((d + 1 : Nat) : Int) == 0) = false := by rw [beq_eq_false_iff_ne]; omega
  have hd1 : ((d + 1 : Nat) : Int) - 1 = (d : Int) := by omega
  have hd2 : (d : Int) + 1 - 1 = (d : Int) := by omega
  have hd3 : ((d : Int) + 1 == 0) = false := by rw [beq_eq_false_iff_ne]; omega
  have HIH : Hid (WantE d) := ih
  clear ih
  unfold AtmB
  obtain ⟨k, hk⟩ : ∃ k, k = nxV T.data.toList i 6 := ⟨_, rfl⟩
  have hk6 : k < 6 := by rw [hk]; exact nxV_lt _ _ (by omega)
  obtain ⟨i1, hi1⟩ : ∃ i1, i1 = nxI T.data.toList i := ⟨_, rfl⟩
  rw [← hk, ← hi1] at hR
  have HR : Hid (R = _) := hR
  have HK : Hid (k = nxV T.data.toList i 6) := hk
  have HI : Hid (i1 = nxI T.data.toList i) := hi1
  clear hR hk hi1
  go_enter Tryz.func39, Tryz.ntmps39
  go_wp2_with fail
  refine (nextB f 6 T i _ E.fd (by omega) (by omega)).mono ?_
  rintro e w1 ⟨he, hf1, ha1⟩
  have U1 := U0.trans (Upon.aside ha1 (Nat.le_of_lt E.hlt))
  replace E := E.feed ha1 hf1
  rw [← HK.out] at he
  rw [← HI.out] at E
  subst he
  clear ha1 hf1 U0 HK HI
  by_cases hk3 : k < 3
  · have hk3' : (k : Int) < 3 := by omega
    have HR2 : Hid (R = _) := HR.out.trans (if_pos hk3)
    clear HR
    go_wp2_with fail
    refine (atomB b f h v bn bj ms sl ov on m ps T i1 _ E (by omega) hl hol hg hmb).mono ?_
    rintro e w2 ⟨pa, pn, pc, rfl, E2, U2⟩
    go_wp2_with fail
    go_ret
    refine ⟨pa, pn, pc, by rw [HR2.out]; try rfl, ?_, U1.trans U2⟩
    rw [HR2.out]; exact E2
  · have hk3' : decide ((k : Int) < 3) = false := by simp; omega
    have HR2 : Hid (R = _) := HR.out.trans (if_neg hk3)
    clear HR
    go_wp2_with fail
    refine (HIH.out b f h v bn bj ms sl ov on m ps T i1 _ E (by omega) hl hol hg hmb).mono ?_
    rintro e w2 ⟨pa, pn, pc, he, E2, U2⟩
    obtain ⟨X, hX⟩ : ∃ X, X = wantB ms on m.batch m.job.name T.data.toList d i1 := ⟨_, rfl⟩
    have hx1 := HLS.out i1
    have hx2 := HLT.out i1
    rw [← hX] at he E2 HR2 hx1 hx2
    clear hX
    subst he
    replace U2 := U1.trans U2
    go_wp2_with fail
    refine (HIH.out b f h v bn bj ms sl ov on { m with pa := pa, pn := pn, pc := pc } (ps ++ X.2.1) T X.2.2 _ E2 (by rw [List.length_append]; omega) hl hol hg hmb).mono ?_
    rintro e w3 ⟨pa3, pn3, pc3, he, E3, U3⟩
    change e = .returned (.string (bs (txW (wantB ms on m.batch m.job.name T.data.toList d X.2.2).1))) at he
    replace E3 : Env b f h v bn bj ms sl ov on { m with pa := pa3, pn := pn3, pc := pc3 } (ps ++ X.2.1 ++ (wantB ms on m.batch m.job.name T.data.toList d X.2.2).2.1) T (wantB ms on m.batch m.job.name T.data.toList d X.2.2).2.2 w3 := E3
    obtain ⟨Y, hY⟩ : ∃ Y, Y = wantB ms on m.batch m.job.name T.data.toList d X.2.2 := ⟨_, rfl⟩
    have hy1 := HLS.out X.2.2
    have hy2 := HLT.out X.2.2
    rw [← hY] at he E3 HR2 hy1 hy2
    clear hY
    subst he
    replace U3 := U2.trans U3
    have zs := bs_size (txW X.1)
    have zt := bs_size (txW Y.1)
    have HRa : Hid (txW R.1 = if k = 5 then [40] ++ txW X.1 ++ [124] ++ txW Y.1 ++ [41] else [40] ++ txW X.1 ++ [41, 38] ++ txW Y.1) := by
      show _ = _
      rw [HR2.out]
      dsimp only
      split <;> rfl
    have HRb : Hid (R.2.1 = X.2.1 ++ Y.2.1 ++ [(if k = 5 then 6 else 5, 0, 0)]) := by show _ = _; rw [HR2.out]
    have HRc : Hid (R.2.2 = Y.2.2) := by show _ = _; rw [HR2.out]
    generalize txW X.1 = s at *
    generalize txW Y.1 = t at *
    obtain ⟨qs, hqs⟩ : ∃ qs, qs = ps ++ X.2.1 ++ Y.2.1 := ⟨_, rfl⟩
    have hql : qs.length ≤ 900 := by rw [hqs]; simp only [List.length_append]; omega
    rw [← hqs] at E3
    have HQ : Hid (ps ++ R.2.1 = qs ++ [(if k = 5 then 6 else 5, 0, 0)]) := by show _ = _; rw [HRb.out, hqs]; simp
    clear hqs HRb HR2 HLS HLT HIH E2 U2 U1 E
    have hown : w3.ownsRow (h + 1) 140 3 (.slice pa3 pn3 pc3) qs.length (flatPt qs) := E3.pt
    obtain ⟨n', hn'⟩ : ∃ n', n' = qs.length := ⟨_, rfl⟩
    obtain ⟨xs', hxs'⟩ : ∃ xs', xs' = flatPt qs := ⟨_, rfl⟩
    rw [← hn', ← hxs'] at hown
    rw [← hn'] at hql
    have HN' : Hid (n' = qs.length) := hn'
    have HX' : Hid (xs' = flatPt qs) := hxs'
    clear hn' hxs'
    have md := E3.md
    have hhl := md.lt
    have h11 := md.c 11; have z11 := md.z 11
    simp [mvC] at h11
    by_cases hk5 : k = 5
    · have HRa2 : Hid (txW R.1 = _) := HRa.out.trans (if_pos hk5)
      have HQ2 : Hid (ps ++ R.2.1 = qs ++ [(6, 0, 0)]) := by show _ = _; rw [HQ.out, if_pos hk5]
      clear HRa HQ
      subst hk5
      go_wp2_with (at_builtin; refine wpList_append_lies _ rfl _ _ 85 rfl (h + 1) 140 i0 (.agg #[.int .i64 0, .int .i64 0, .int .i64 0]) 3 24 Tryz.underlying85 hI0 hz0 hz1 hz2 rfl (by decide) _ n' xs' rfl (hown.alloc _) ⟨w3.heap.size, 0, none⟩ 1 1 [.int .i64 6, .int .i64 0, .int .i64 0] rfl rfl (World.news_of_block (cs := #[.int .i64 6, .int .i64 0, .int .i64 0]) (t := 140) (fr := (0, 0)) (heap_alloc_new w3 _)) ?c2 (by decide) ?c3 ?c4 ?c5 _ rfl ?_)
      case c2 => first | exact ⟨rfl, rfl⟩ | (intro u hu; simp at hu; rcases hu with rfl | rfl <;> rfl)
      case c3 => unfold maxLen; omega
      case c4 => omega
      case c5 => first | omega | (simp; omega)
      intro g4 cap4 w4 hown4 hgrow4 hat4 hlt4
      obtain ⟨q1, _, q3, q4, q5⟩ := parts_grow (md.alloc _) (hown.alloc _) hgrow4 hown4
      replace q5 := ((Below.refl h w3).alloc (by omega) _).trans q5
      have y11 := q1.c 11; have yz := q1.z 11
      simp [mvC] at y11
      clear hgrow4 hown4 hat4 hlt4 q1 hown h11 z11
      go_wp2_with fail
      go_ret
      refine ⟨ret_str ?_, ⟨some ⟨g4, 0, none⟩, n' + 1, cap4, ?_⟩, U3.trans (Upon.below q5)⟩
      · rw [HRa2.out, ← bs_append, ← bs_append, ← bs_append, ← bs_append]; rfl
      · rw [HQ2.out, HRc.out]
        exact E3.grow (q0 := 6) (q1 := 0) (q2 := 0) q5 q3 q4 HN'.out HX'.out
    · have hk5' : ((k : Int) == 5) = false := by rw [beq_eq_false_iff_ne]; omega
      have HRa2 : Hid (txW R.1 = _) := HRa.out.trans (if_neg hk5)
      have HQ2 : Hid (ps ++ R.2.1 = qs ++ [(5, 0, 0)]) := by show _ = _; rw [HQ.out, if_neg hk5]
      clear HRa HQ
      go_wp2_with (at_builtin; refine wpList_append_lies _ rfl _ _ 85 rfl (h + 1) 140 i0 (.agg #[.int .i64 0, .int .i64 0, .int .i64 0]) 3 24 Tryz.underlying85 hI0 hz0 hz1 hz2 rfl (by decide) _ n' xs' rfl (hown.alloc _) ⟨w3.heap.size, 0, none⟩ 1 1 [.int .i64 5, .int .i64 0, .int .i64 0] rfl rfl (World.news_of_block (cs := #[.int .i64 5, .int .i64 0, .int .i64 0]) (t := 140) (fr := (0, 0)) (heap_alloc_new w3 _)) ?c2 (by decide) ?c3 ?c4 ?c5 _ rfl ?_)
      case c2 => first | exact ⟨rfl, rfl⟩ | (intro u hu; simp at hu; rcases hu with rfl | rfl <;> rfl)
      case c3 => unfold maxLen; omega
      case c4 => omega
      case c5 => first | omega | (simp; omega)
      intro g4 cap4 w4 hown4 hgrow4 hat4 hlt4
      obtain ⟨q1, _, q3, q4, q5⟩ := parts_grow (md.alloc _) (hown.alloc _) hgrow4 hown4
      replace q5 := ((Below.refl h w3).alloc (by omega) _).trans q5
      have y11 := q1.c 11; have yz := q1.z 11
      simp [mvC] at y11
      clear hgrow4 hown4 hat4 hlt4 q1 hown h11 z11
      go_wp2_with fail
      go_ret
      refine ⟨ret_str ?_, ⟨some ⟨g4, 0, none⟩, n' + 1, cap4, ?_⟩, U3.trans (Upon.below q5)⟩
      · rw [HRa2.out, ← bs_append, ← bs_append, ← bs_append]; rfl
      · rw [HQ2.out, HRc.out]
        exact E3.grow (q0 := 5) (q1 := 0) (q2 := 0) q5 q3 q4 HN'.out HX'.out

/-- A want of depth two. -/
theorem wantE2 : WantE 2 := want_succE 1 (by omega) (want_succE 0 (by omega) want_zeroE)

end Go.Proofs.YtanknpmojblmcaaGreatDoor
