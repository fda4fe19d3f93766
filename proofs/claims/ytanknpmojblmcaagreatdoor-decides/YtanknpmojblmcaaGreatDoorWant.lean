/-
  A want out of its terms; brackets out of a want; a factor at every depth.
-/
import Derived.Test.YtanknpmojblmcaaGreatDoorTerm
set_option linter.unusedSimpArgs false
set_option linter.unusedVariables false
namespace Go.Proofs.YtanknpmojblmcaaGreatDoor
open Go.RowKit

theorem wantL_no {L : List UInt8} {F : Nat × Bool → (List UInt8 × Nat) × (Nat × Bool)} {n : Nat} {s : Nat × Bool} {p : List UInt8 × Nat} (h : sk L 124 s = false) : wantL L F n s p = (p, s) := by
  cases n <;> simp [wantL, h]
theorem wantL_yes {L : List UInt8} {F : Nat × Bool → (List UInt8 × Nat) × (Nat × Bool)} {n : Nat} {s : Nat × Bool} {p : List UInt8 × Nat} (h : sk L 124 s = true) : wantL L F (n + 1) s p = wantL L F n (termF L F (s.1 + 1, s.2)).2 (p.1 ++ 124 :: (termF L F (s.1 + 1, s.2)).1.1, p.2 + (termF L F (s.1 + 1, s.2)).1.2) := by
  simp [wantL, h]

/-- The cells of a plain. -/
def plO (p : List UInt8 × Nat) : Obj := .cells #[.string (bs p.1), .int .i64 (p.2 : Int)] 187 (0, 0)

set_option maxHeartbeats 2000000 in
theorem want_ok (d n : Nat) (hd : d ≤ 4) (hF : PartOK 145 d (fun L => termF L (fac L n)) (fun L => termQ L (fac L n) (facQ L n))) : PartOK 132 d (fun L => wantF L (fac L n)) (fun L => wantQ L (fac L n) (facQ L n)) := by
  intro rv b i f T S w h hS hSl hT hi
  unfold Lef
  unfold PartOK Lef at hF
  have hb := h.lt
  have hro := hS.new
  have hlen : T.data.toList.length = T.size := by simp
  have good := termF_good (fac_good T.data.toList n)
  have goodQ := termQ_good (fac_good T.data.toList n) (facQ_good T.data.toList n)
  have hg := good (i, f) (by rw [hlen]; exact hi)
  have hgQ := goodQ (i, f) (by rw [hlen]; exact hi)
  go_enter Tryz.func132, Tryz.ntmps132
  go_wp2_with fail
  refine (hF rv b i f T S _ (h.alloc _) (hS.alloc _) hSl hT hi).mono ?_
  rintro e w1 ⟨he, rv1, hr1, hs1, ha1⟩
  have hn1 := ha1.new hb hro
  have HT : Hid (wantF T.data.toList (fac T.data.toList n) (i, f) = wantL T.data.toList (fac T.data.toList n) T.data.toList.length (termF T.data.toList (fac T.data.toList n) (i, f)).2 (termF T.data.toList (fac T.data.toList n) (i, f)).1) := rfl
  have HU : Hid (S ++ wantQ T.data.toList (fac T.data.toList n) (facQ T.data.toList n) (i, f) = (S ++ termQ T.data.toList (fac T.data.toList n) (facQ T.data.toList n) (i, f)) ++ wantLQ T.data.toList (fac T.data.toList n) (facQ T.data.toList n) T.data.toList.length (termF T.data.toList (fac T.data.toList n) (i, f)).2) := by
    show _ = _
    rw [List.append_assoc]; rfl
  try simp only at hr1 hg he hs1 hgQ
  have hS1l : (S ++ termQ T.data.toList (fac T.data.toList n) (facQ T.data.toList n) (i, f)).length ≤ (termF T.data.toList (fac T.data.toList n) (i, f)).2.1 := by simp; omega
  generalize S ++ termQ T.data.toList (fac T.data.toList n) (facQ T.data.toList n) (i, f) = S1 at *
  generalize termF T.data.toList (fac T.data.toList n) (i, f) = r1 at *
  obtain ⟨p1, i1, f1⟩ := r1
  obtain ⟨⟨hg1, hg2⟩, ⟨hg3, hg4, hg5⟩⟩ := hg
  simp only at hr1 hg1 hg2 hg3 hg4 hg5 HT he hS1l HU
  have hz1 : w.heap.size + 1 ≤ w1.heap.size := by have := ha1.size; simpa using this
  have hP : plV p1 = .agg #[.string (bs p1.1), .int .i64 (p1.2 : Int)] := rfl
  rw [hP] at he
  clear hP
  subst he
  have hne : w.heap.size ≠ b := by omega
  have hA : w1.heap.size ≠ b := by omega
  have hAR : w1.heap.size ≠ w.heap.size := by omega
  have hAw : w.heap.size ≤ w1.heap.size := by omega
  generalize hAe : w1.heap.size = A at *
  have HA : Hid (w1.heap.size = A) := hAe
  clear hAe
  have hr2 := hr1.alloc (.cells #[.string (bs p1.1), .int .i64 (p1.2 : Int)] 187)
  have hs2 := hs1.alloc (.cells #[.string (bs p1.1), .int .i64 (p1.2 : Int)] 187)
  have hn2 := whole_alloc hn1 (.cells #[.string (bs p1.1), .int .i64 (p1.2 : Int)] 187)
  have ha2 := ha1.below.alloc (.cells #[.string (bs p1.1), .int .i64 (p1.2 : Int)] 187)
  have hm2 : (w1.alloc (.cells #[.string (bs p1.1), .int .i64 (p1.2 : Int)] 187)).heap[A]? = some (plO p1) := by rw [← HA.out]; exact whole_new w1 _
  go_wp2_with fail
  rw [HA.out]
  generalize w1.alloc (.cells #[.string (bs p1.1), .int .i64 (p1.2 : Int)] 187) = w2 at *
  clear hr1 ha1 hn1 HA hs1 hgQ
  go_loopg [6] (T.size - i1) (fun g x wr => ∃ (j : Nat) (k : Bool) (p : List UInt8 × Nat) (m : Nat) (rk : Value) (Sk : List Stp), g = T.size - j ∧ j ≤ T.size ∧ p.1.length ≤ 3 * j ∧ p.2 ≤ j + 1 ∧ T.size - j ≤ m ∧ Sk.length ≤ j ∧ Rd b rk T j k wr ∧ Sr b rk Sk wr ∧ AsV b rv rk w wr ∧ wr.heap[w.heap.size]? = some (.cells #[.string ⟨#[]⟩, .int .i64 0] 187 (0, 0)) ∧ wr.heap[A]? = some (plO p) ∧ Hid (wantL T.data.toList (fac T.data.toList n) T.data.toList.length (i1, f1) p1 = wantL T.data.toList (fac T.data.toList n) m (j, k) p) ∧ Hid (S1 ++ wantLQ T.data.toList (fac T.data.toList n) (facQ T.data.toList n) T.data.toList.length (i1, f1) = Sk ++ wantLQ T.data.toList (fac T.data.toList n) (facQ T.data.toList n) m (j, k)))
  case atStart => exact ⟨i1, f1, p1, T.data.toList.length, rv1, S1, rfl, by omega, by omega, by omega, by omega, hS1l, hr2, hs2, ha2, hn2, hm2, rfl, rfl⟩
  case round =>
    obtain ⟨j, k, p, m, rk, Sk, rfl, hj, hp1, hp2, hm, hSk, hr, hs', ha, hn, hq, HL, HM⟩ := hrel
    go_wp2_with fail
    refine (skip_any b j 124 k T _ hr hT).mono ?_
    rintro e w4 ⟨rfl, hr5, ha5⟩
    have hs5 := hs'.kept ha5
    have hn5 : w4.heap[w.heap.size]? = some (.cells #[.string ⟨#[]⟩, .int .i64 0] 187 (0, 0)) := (ha5.block _ (whole_lt hn) hne).trans hn
    have hq5 : w4.heap[A]? = some (plO p) := (ha5.block _ (whole_lt hq) hA).trans hq
    have hqo := hs5.other hn5 (by decide)
    have hqA := hs5.other hq5 (by decide)
    cases hs : sk T.data.toList 124 (j, k) with
    | false =>
      rw [skS_no hs] at hr5
      have HL2 := HL.out
      rw [wantL_no hs] at HL2
      have HM2 := HM.out
      rw [wantLQ_no hs, List.append_nil] at HM2
      have HT4 : Hid (wantF T.data.toList (fac T.data.toList n) (i, f) = (p, (j, k))) := by show _ = _; rw [HT.out, HL2]
      have HU4 : Hid (S ++ wantQ T.data.toList (fac T.data.toList n) (facQ T.data.toList n) (i, f) = Sk) := by show _ = _; rw [HU.out, HM2]
      clear HL2 hs HL HT HM HM2 HU
      have c0 := whole_cell hn5 0; have c1 := whole_cell hn5 1; have z0 := whole_frozen hn5 0; have z1 := whole_frozen hn5 1
      have d0 := whole_cell hq5 0; have d1 := whole_cell hq5 1
      simp at c0 c1 d0 d1
      go_wp2_with fail
      refine bodyPost_ret (v := plV p) ?_ rfl ?_
      · simp [results, Tryz.results132, go_sem, c0, c1, plV]
      · rw [HT4.out, HU4.out]
        refine ⟨rfl, rk, whole_set_ne (whole_set_ne hr5 ⟨w.heap.size, 0, none⟩ hne _) ⟨w.heap.size, 1, none⟩ hne _, ?_, ((ha.then ha5).setCell (Or.inr (Nat.le_refl _)) _).setCell (Or.inr (Nat.le_refl _)) _⟩
        exact Sr.setCell (p := ⟨w.heap.size, 1, none⟩) (Sr.setCell (p := ⟨w.heap.size, 0, none⟩) hs5 hqo _) hqo _
    | true =>
      have hlt : j < T.size := by have := (sk_lt hs).1; rw [hlen] at this; exact this
      rw [skS_yes hs] at hr5
      obtain ⟨m', rfl⟩ : ∃ m', m = m' + 1 := ⟨m - 1, by omega⟩
      have HL2 := HL.out
      rw [wantL_yes hs] at HL2
      have HM2 := HM.out
      rw [wantLQ_yes hs] at HM2
      have hg7 := good (j + 1, k) (by show j + 1 ≤ _; omega)
      have hg8 := goodQ (j + 1, k) (by show j + 1 ≤ _; omega)
      have HL3 : Hid _ := HL2
      have HM3 : Hid (S1 ++ wantLQ T.data.toList (fac T.data.toList n) (facQ T.data.toList n) T.data.toList.length (i1, f1) = ((Sk ++ termQ T.data.toList (fac T.data.toList n) (facQ T.data.toList n) (j + 1, k)) ++ [stp 6]) ++ wantLQ T.data.toList (fac T.data.toList n) (facQ T.data.toList n) m' (termF T.data.toList (fac T.data.toList n) (j + 1, k)).2) := by
        show _ = _
        rw [HM2]; simp
      clear HL2 HL hs HM2 HM
      simp only at hr5 HL3 HM3
      go_wp2_with fail
      refine (hF rk b (j + 1) k T Sk _ hr5 hs5 (by omega) hT (by omega)).mono ?_
      rintro e w5 ⟨he, rk6, hr6, hs6, ha6⟩
      try simp only at hr6 he hs6
      have hn6 : w5.heap[w.heap.size]? = some (.cells #[.string ⟨#[]⟩, .int .i64 0] 187 (0, 0)) := (ha6.block _ (whole_lt hn5) hne hqo).trans hn5
      have hq6 : w5.heap[A]? = some (plO p) := (ha6.block _ (whole_lt hq5) hA hqA).trans hq5
      have hS6l : (Sk ++ termQ T.data.toList (fac T.data.toList n) (facQ T.data.toList n) (j + 1, k)).length + 1 ≤ (termF T.data.toList (fac T.data.toList n) (j + 1, k)).2.1 := by simp at hg8 ⊢; omega
      generalize Sk ++ termQ T.data.toList (fac T.data.toList n) (facQ T.data.toList n) (j + 1, k) = S6 at *
      generalize termF T.data.toList (fac T.data.toList n) (j + 1, k) = r2 at *
      obtain ⟨p2, i2, f2⟩ := r2
      obtain ⟨⟨hh1, hh2⟩, ⟨hh3, hh4, hh5⟩⟩ := hg7
      simp only at hr6 hh1 hh2 hh3 hh4 hh5 HL3 he hS6l HM3
      have hP : plV p2 = .agg #[.string (bs p2.1), .int .i64 (p2.2 : Int)] := rfl
      rw [hP] at he
      clear hP
      subst he
      have ha7 := ((ha.then ha5).trans ha6).alloc (.cells #[.string (bs p2.1), .int .i64 (p2.2 : Int)] 187)
      have hr7 := hr6.alloc (.cells #[.string (bs p2.1), .int .i64 (p2.2 : Int)] 187)
      have hs7 := hs6.alloc (.cells #[.string (bs p2.1), .int .i64 (p2.2 : Int)] 187)
      have hn7 := whole_alloc hn6 (.cells #[.string (bs p2.1), .int .i64 (p2.2 : Int)] 187)
      have hq7 := whole_alloc hq6 (.cells #[.string (bs p2.1), .int .i64 (p2.2 : Int)] 187)
      have hm7 := whole_new w5 (.cells #[.string (bs p2.1), .int .i64 (p2.2 : Int)] 187 (0, 0))
      have hne5 : w5.heap.size ≠ b := by have := hr6.lt; omega
      have hAlt := whole_lt hq6
      have hA5 : w5.heap.size ≠ A := by omega
      clear ha6 ha5 ha hr6 hs6 hn6 hr5 hs5 hn5 hr hs' hn hqo hg8 hq hq5 hq6 hqA
      go_wp2_with fail
      refine (laySt_any b i2 f2 T S6 (stp 6) _ hr7 hs7 (by omega)).mono ?_
      rintro e w8 ⟨rfl, rk8, hr8, hs8, ha8⟩
      have hn8 := (ha8.block _ (whole_lt hn7) hne (hs7.other hn7 (by decide))).trans hn7
      have hq8 : w8.heap[A]? = some (plO p) := (ha8.block _ (whole_lt hq7) hA (hs7.other hq7 (by decide))).trans hq7
      have hm8 := (ha8.block _ (whole_lt hm7) hne5 (hs7.other hm7 (by decide))).trans hm7
      replace ha8 := ha7.trans ha8
      have e0 := whole_cell hm8 0; have e1 := whole_cell hm8 1
      simp at e0 e1
      have hqA8 := hs8.other hq8 (by decide)
      have hk1 : (bs p.1).size ≤ 2000 := by rw [bs_size]; omega
      have hk2 : (bs p2.1).size ≤ 2000 := by rw [bs_size]; omega
      have hk3 : (p.2 : Int) ≤ 2000 := by omega
      have hk4 : (p2.2 : Int) ≤ 2000 := by omega
      have d0 := whole_cell hq8 0; have d1 := whole_cell hq8 1; have z0 := whole_frozen hq8 0; have z1 := whole_frozen hq8 1
      simp at d0 d1
      clear hm7 hn7 hs7 hr7 ha7 hq7
      go_wp2_with fail
      go_roundg (T.size - i2)
      case measure => omega
      case rel =>
        have e1 : bs p.1 ++ (⟨#[124]⟩ ++ bs p2.1) = bs (p.1 ++ 124 :: p2.1) := by
          rw [show p.1 ++ 124 :: p2.1 = p.1 ++ ([124] ++ p2.1) from rfl, ← bs_append, ← bs_append]; rfl
        rw [e1]
        refine ⟨i2, f2, (p.1 ++ 124 :: p2.1, p.2 + p2.2), m', rk8, S6 ++ [stp 6], rfl, by omega, by simp; omega, by simp; omega, by omega, by simp; omega, ?_, ?_, ?_, ?_, ?_, HL3, HM3⟩
        · exact whole_set_ne (whole_set_ne hr8 ⟨A, 0, none⟩ hA _) ⟨A, 1, none⟩ hA _
        · exact Sr.setCell (p := ⟨A, 1, none⟩) (Sr.setCell (p := ⟨A, 0, none⟩) hs8 hqA8 _) hqA8 _
        · exact (ha8.setCell (Or.inr hAw) _).setCell (Or.inr hAw) _
        · exact whole_set_ne (whole_set_ne hn8 ⟨A, 0, none⟩ hAR _) ⟨A, 1, none⟩ hAR _
        · rw [whole_set (whole_set hq8 0 _) 1 _]
          simp [plO]

set_option maxHeartbeats 1000000 in
theorem brackets_ok (d n : Nat) (hd : d < 4) (hF : PartOK 132 (d + 1) (fun L => wantF L (fac L n)) (fun L => wantQ L (fac L n) (facQ L n))) :
    PartOK 157 d (fun L s => ((wantF L (fac L n) (wd L [40] s)).1, wd L [41] (wantF L (fac L n) (wd L [40] s)).2)) (fun L s => wantQ L (fac L n) (facQ L n) (wd L [40] s)) := by
  intro rv b i f T S w h hS hSl hT hi
  unfold Lef
  unfold PartOK Lef at hF
  have hb := h.lt
  have hro := hS.new
  have hne : w.heap.size ≠ b := by omega
  have hlen : T.data.toList.length = T.size := by simp
  have hgw0 := wd_goes T.data.toList [40] (i, f) (by rw [hlen]; exact hi)
  have hgw := hgw0.2
  have hgw1 := hgw0.1
  rw [hlen] at hgw
  have hd' : decide ((4 : Int) ≤ (d : Int)) = false := by simp; omega
  simp only
  go_enter Tryz.func157, Tryz.ntmps157
  go_wp2_with fail
  refine (word_any b i f T ⟨#[40]⟩ _ (h.alloc _) hT (by decide)).mono ?_
  rintro e w1 ⟨rfl, hr1, ha1⟩
  have hr1 : Rd b rv T (wd T.data.toList [40] (i, f)).1 (wd T.data.toList [40] (i, f)).2 w1 := hr1
  have hs1 := (hS.alloc (.cells #[.string ⟨#[]⟩, .int .i64 0] 187)).kept ha1
  have hn1 := ha1.new hb
  have hg := wantF_good (fac_good T.data.toList n) (wd T.data.toList [40] (i, f)) (by rw [hlen]; exact hgw)
  generalize hs0 : wd T.data.toList [40] (i, f) = s0 at *
  have HS0 : Hid (wd T.data.toList [40] (i, f) = s0) := hs0
  clear hs0 hgw0
  obtain ⟨i0, f0⟩ := s0
  simp only at hgw1
  go_wp2_with fail
  refine (hF rv b i0 f0 T S _ hr1 hs1 (by omega) hT hgw).mono ?_
  rintro e w2 ⟨he, rv2, hr2, hs2, ha2⟩
  try simp only at he hr2
  have hqo1 := hs1.other hn1 (by decide)
  have hn2 : w2.heap[w.heap.size]? = some (.cells #[.string ⟨#[]⟩, .int .i64 0] 187 (0, 0)) := (ha2.block _ (whole_lt hn1) hne hqo1).trans hn1
  generalize hs1' : wantF T.data.toList (fac T.data.toList n) (i0, f0) = s1 at *
  have HS1 : Hid (wantF T.data.toList (fac T.data.toList n) (i0, f0) = s1) := hs1'
  clear hs1'
  obtain ⟨p1, i1, f1⟩ := s1
  obtain ⟨⟨hg1, hg2⟩, ⟨hg3, hg4, hg5⟩⟩ := hg
  simp only at hr2 hg1 hg2 hg3 hg4 hg5 he
  have hP : plV p1 = .agg #[.string (bs p1.1), .int .i64 (p1.2 : Int)] := rfl
  rw [hP] at he
  clear hP
  subst he
  have hr3 := hr2.alloc (.cells #[.string (bs p1.1), .int .i64 (p1.2 : Int)] 187)
  have hs3 := hs2.alloc (.cells #[.string (bs p1.1), .int .i64 (p1.2 : Int)] 187)
  have hn3 := whole_alloc hn2 (.cells #[.string (bs p1.1), .int .i64 (p1.2 : Int)] 187)
  have hm3 := whole_new w2 (.cells #[.string (bs p1.1), .int .i64 (p1.2 : Int)] 187 (0, 0))
  have hne2 : w2.heap.size ≠ b := by have := hr2.lt; omega
  have ha3 : AsV b rv rv2 w (w2.alloc (.cells #[.string (bs p1.1), .int .i64 (p1.2 : Int)] 187)) := ((AsV.of ha1.below).trans ha2).alloc _
  go_wp2_with fail
  refine (word_any b i1 f1 T ⟨#[41]⟩ _ hr3 hT (by decide)).mono ?_
  rintro e w3 ⟨rfl, hr4, ha4⟩
  have hs4 := hs3.kept ha4
  have hn4 := (ha4.block _ (whole_lt hn3) hne).trans hn3
  have hm4 := (ha4.block _ (whole_lt hm3) hne2).trans hm3
  have hqo := hs4.other hn4 (by decide)
  have c0 := whole_cell hn4 0; have c1 := whole_cell hn4 1; have z0 := whole_frozen hn4 0; have z1 := whole_frozen hn4 1
  have d0 := whole_cell hm4 0; have d1 := whole_cell hm4 1
  simp at c0 c1 d0 d1
  go_wp2_with fail
  refine bodyPost_ret (v := plV p1) ?_ rfl ?_
  · simp [results, Tryz.results157, go_sem, c0, c1, plV]
  · rw [HS0.out, HS1.out]
    refine ⟨rfl, rv2, whole_set_ne (whole_set_ne hr4 ⟨w.heap.size, 0, none⟩ hne _) ⟨w.heap.size, 1, none⟩ hne _, ?_, ((ha3.then ha4).setCell (Or.inr (Nat.le_refl _)) _).setCell (Or.inr (Nat.le_refl _)) _⟩
    exact Sr.setCell (p := ⟨w.heap.size, 1, none⟩) (Sr.setCell (p := ⟨w.heap.size, 0, none⟩) hs4 hqo _) hqo _

set_option maxHeartbeats 1000000 in
theorem brackets_deep : PartOK 157 4 (fun L s => (([], 1), (s.1, true))) (fun L s => []) := by
  intro rv b i f T S w h hS hSl hT hi
  unfold Lef
  have hb := h.lt
  have hne : w.heap.size ≠ b := by omega
  have h2 := h.c2; have z2 := h.z 2
  simp only
  go_enter Tryz.func157, Tryz.ntmps157
  go_wp2_with fail
  refine bodyPost_ret (v := plV ([], 1)) ?_ rfl ?_
  · simp [results, Tryz.results157, go_sem, plV, bs]
  · rw [List.append_nil]
    exact ⟨rfl, rv, whole_alloc (Rd.setFail h) _, (hS.setCell hS.ne _).alloc _, AsV.of (((Aside.refl b w).setCell (Or.inl rfl) _).alloc _)⟩

set_option maxHeartbeats 1000000 in
theorem factor_40 (d : Nat) (hd : d ≤ 4) (F : List UInt8 → Nat × Bool → (List UInt8 × Nat) × (Nat × Bool)) (G : List UInt8 → Nat × Bool → List Stp) (hF : PartOK 157 d F G)
    (rv : Value) (b i : Nat) (f : Bool) (T : ByteArray) (S : List Stp) (w : World) (h : Rd b rv T i f w) (hS : Sr b rv S w) (hSl : S.length ≤ i) (hT : T.size ≤ 600) (hi : i ≤ T.size) (hc : pk T.data.toList (i, f) = 40) :
    Calls Tryz.prog 152 #[.pointer (some ⟨b, 0, none⟩), .int .i64 (d : Int)] w (Lef rv b T S (G T.data.toList (i, f)) (F T.data.toList (i, f)).1 (F T.data.toList (i, f)).2 w) := by
  unfold Lef
  unfold PartOK Lef at hF
  have hb := h.lt
  have hro := hS.new
  have hne : w.heap.size ≠ b := by omega
  have h1 := h.c1
  have HC : Hid (pk T.data.toList (i, f) = 40) := hc
  clear hc
  go_enter Tryz.func152, Tryz.ntmps152
  go_wp2_with fail
  refine (peek_any b i f T _ (h.alloc _)).mono ?_
  rintro e w1 ⟨rfl, n1, hw1⟩
  have hr1 : Rd b rv T i f w1 := by rw [hw1]; exact (h.alloc _).drewN n1
  have hs1 : Sr b rv S w1 := by rw [hw1]; exact (hS.alloc _).drewN n1
  have ha1 : Aside b (w.alloc (.cells #[.string ⟨#[]⟩, .int .i64 0] 187)) w1 := by rw [hw1]; exact (Aside.refl _ _).drewN n1
  clear hw1
  rw [HC.out]
  go_wp2_with fail
  refine (hF rv b i f T S _ hr1 hs1 hSl hT hi).mono ?_
  rintro e w2 ⟨he, rv2, hr2, hs2, ha2⟩
  have hn2 := ((AsV.of (v := rv) ha1).trans ha2).new hb hro
  have hqo := hs2.other hn2 (by decide)
  generalize hs1' : F T.data.toList (i, f) = s1 at *
  have HS1 : Hid (F T.data.toList (i, f) = s1) := hs1'
  clear hs1'
  obtain ⟨p1, i1, f1⟩ := s1
  simp only at hr2 he
  have hP : plV p1 = .agg #[.string (bs p1.1), .int .i64 (p1.2 : Int)] := rfl
  rw [hP] at he
  clear hP
  subst he
  have c0 := whole_cell hn2 0; have c1 := whole_cell hn2 1; have z0 := whole_frozen hn2 0; have z1 := whole_frozen hn2 1
  simp at c0 c1
  go_wp2_with fail
  refine bodyPost_ret (v := plV p1) ?_ rfl ?_
  · simp [results, Tryz.results152, go_sem, c0, c1, plV]
  · try rw [HS1.out]
    refine ⟨rfl, rv2, whole_set_ne (whole_set_ne hr2 ⟨w.heap.size, 0, none⟩ hne _) ⟨w.heap.size, 1, none⟩ hne _, ?_, (((AsV.of (v := rv) ha1).trans ha2).below.setCell (Or.inr (Nat.le_refl _)) _).setCell (Or.inr (Nat.le_refl _)) _⟩
    exact Sr.setCell (p := ⟨w.heap.size, 1, none⟩) (Sr.setCell (p := ⟨w.heap.size, 0, none⟩) hs2 hqo _) hqo _

theorem factor_ok (n : Nat) : ∀ d, d + n = 4 → PartOK 152 d (fun L => fac L n) (fun L => facQ L n) := by
  induction n with
  | zero =>
    intro d hd rv b i f T S w h hS hSl hT hi
    have hd : d = 4 := by omega
    subst hd
    by_cases hc : pk T.data.toList (i, f) = 40
    · refine (factor_40 4 (by omega) _ _ brackets_deep rv b i f T S w h hS hSl hT hi hc).mono ?_
      intro e w' hp
      simpa [fac, facQ, hc] using hp
    · refine (leaf_any b i 4 f T S w h hS (by omega) hT hi (by omega) hc).mono ?_
      intro e w' hp
      simpa [fac, facQ, hc] using hp
  | succ n ih =>
    intro d hd rv b i f T S w h hS hSl hT hi
    by_cases hc : pk T.data.toList (i, f) = 40
    · have hw := want_ok (d + 1) n (by omega) (term_ok (d + 1) n (by omega) (ih (d + 1) (by omega)))
      refine (factor_40 d (by omega) _ _ (brackets_ok d n (by omega) hw) rv b i f T S w h hS hSl hT hi hc).mono ?_
      intro e w' hp
      simpa [fac, facQ, hc] using hp
    · refine (leaf_any b i d f T S w h hS (by omega) hT hi (by omega) hc).mono ?_
      intro e w' hp
      simpa [fac, facQ, hc] using hp

/-- The want that stands in no brackets. -/
theorem want_any : PartOK 132 0 (fun L => wantF L (fac L 4)) (fun L => wantQ L (fac L 4) (facQ L 4)) := want_ok 0 4 (by omega) (term_ok 0 4 (by omega) (factor_ok 4 0 rfl))

end Go.Proofs.YtanknpmojblmcaaGreatDoor
