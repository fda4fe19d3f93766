/-
  A want out of its terms; brackets out of a want; a factor at every depth.
-/
import Derived.Test.YtkmdmlpkbidpoaaTerm
set_option linter.unusedSimpArgs false
set_option linter.unusedVariables false
namespace Go.Proofs.Ytkmdmlpkbidpoaa
open Go.RowKit

theorem wantL_no {L : List UInt8} {F : Nat × Bool → (List UInt8 × Nat) × (Nat × Bool)} {n : Nat} {s : Nat × Bool} {p : List UInt8 × Nat} (h : sk L 124 s = false) : wantL L F n s p = (p, s) := by
  cases n <;> simp [wantL, h]
theorem wantL_yes {L : List UInt8} {F : Nat × Bool → (List UInt8 × Nat) × (Nat × Bool)} {n : Nat} {s : Nat × Bool} {p : List UInt8 × Nat} (h : sk L 124 s = true) : wantL L F (n + 1) s p = wantL L F n (termF L F (s.1 + 1, s.2)).2 (p.1 ++ 124 :: (termF L F (s.1 + 1, s.2)).1.1, p.2 + (termF L F (s.1 + 1, s.2)).1.2) := by
  simp [wantL, h]

/-- The cells of a plain. -/
def plO (p : List UInt8 × Nat) : Obj := .cells #[.string (bs p.1), .int .i64 (p.2 : Int)] 76 (0, 0)

set_option maxHeartbeats 1000000 in
theorem want_ok (d n : Nat) (hd : d ≤ 4) (hF : PartOK 49 d (fun L => termF L (fac L n))) : PartOK 47 d (fun L => wantF L (fac L n)) := by
  intro b i f T w h hT hi
  have hb := h.lt
  have hlen : T.data.toList.length = T.size := by simp
  have good := termF_good (fac_good T.data.toList n)
  have hg := good (i, f) (by rw [hlen]; exact hi)
  go_enter Try.func47, Try.ntmps47
  go_wp2_with fail
  refine (hF b i f T _ (h.alloc _) hT hi).mono ?_
  rintro e w1 ⟨he, hr1, ha1⟩
  have hn1 := ha1.new hb
  have HT : Hid (wantF T.data.toList (fac T.data.toList n) (i, f) = wantL T.data.toList (fac T.data.toList n) T.data.toList.length (termF T.data.toList (fac T.data.toList n) (i, f)).2 (termF T.data.toList (fac T.data.toList n) (i, f)).1) := rfl
  simp only at hr1 hg he
  generalize termF T.data.toList (fac T.data.toList n) (i, f) = r1 at *
  obtain ⟨p1, i1, f1⟩ := r1
  obtain ⟨⟨hg1, hg2⟩, ⟨hg3, hg4, hg5⟩⟩ := hg
  simp only at hr1 hg1 hg2 hg3 hg4 hg5 HT he
  have hz1 : w.heap.size + 1 ≤ w1.heap.size := by have := ha1.size; simpa using this
  have hP : plV p1 = .agg #[.string (bs p1.1), .int .i64 (p1.2 : Int)] := rfl
  rw [hP] at he
  clear hP
  subst he
  have hne : w.heap.size ≠ b := by omega
  have hA : w1.heap.size ≠ b := by omega
  have hAR : w1.heap.size ≠ w.heap.size := by omega
  have hAw : w.heap.size ≤ w1.heap.size := by omega
  generalize hAe : w1.heap.size = A at *
  have HA : Hid (w1.heap.size = A) := hAe
  clear hAe
  have hr2 := hr1.alloc (.cells #[.string (bs p1.1), .int .i64 (p1.2 : Int)] 76)
  have hn2 := whole_alloc hn1 (.cells #[.string (bs p1.1), .int .i64 (p1.2 : Int)] 76)
  have ha2 := ha1.below.alloc (.cells #[.string (bs p1.1), .int .i64 (p1.2 : Int)] 76)
  have hm2 : (w1.alloc (.cells #[.string (bs p1.1), .int .i64 (p1.2 : Int)] 76)).heap[A]? = some (plO p1) := by rw [← HA.out]; exact whole_new w1 _
  go_wp2_with fail
  rw [HA.out]
  generalize w1.alloc (.cells #[.string (bs p1.1), .int .i64 (p1.2 : Int)] 76) = w2 at *
  clear hr1 ha1 hn1 HA
  go_loopg [6] (T.size - i1) (fun g x wr => ∃ (j : Nat) (k : Bool) (p : List UInt8 × Nat) (m : Nat), g = T.size - j ∧ j ≤ T.size ∧ p.1.length ≤ 3 * j ∧ p.2 ≤ j + 1 ∧ T.size - j ≤ m ∧ Rd b T j k wr ∧ Aside b w wr ∧ wr.heap[w.heap.size]? = some (.cells #[.string ⟨#[]⟩, .int .i64 0] 76 (0, 0)) ∧ wr.heap[A]? = some (plO p) ∧ Hid (wantL T.data.toList (fac T.data.toList n) T.data.toList.length (i1, f1) p1 = wantL T.data.toList (fac T.data.toList n) m (j, k) p))
  case atStart => exact ⟨i1, f1, p1, T.data.toList.length, rfl, by omega, by omega, by omega, by omega, hr2, ha2, hn2, hm2, rfl⟩
  case round =>
    obtain ⟨j, k, p, m, rfl, hj, hp1, hp2, hm, hr, ha, hn, hq, HL⟩ := hrel
    go_wp2_with fail
    refine (skip_any b j 124 k T _ hr hT).mono ?_
    rintro e w4 ⟨rfl, hr5, ha5⟩
    have hn5 : w4.heap[w.heap.size]? = some (.cells #[.string ⟨#[]⟩, .int .i64 0] 76 (0, 0)) := (ha5.block _ (whole_lt hn) hne).trans hn
    have hq5 : w4.heap[A]? = some (plO p) := (ha5.block _ (whole_lt hq) hA).trans hq
    cases hs : sk T.data.toList 124 (j, k) with
    | false =>
      rw [skS_no hs] at hr5
      have HL2 := HL.out
      rw [wantL_no hs] at HL2
      have HT4 : Hid (wantF T.data.toList (fac T.data.toList n) (i, f) = (p, (j, k))) := by show _ = _; rw [HT.out, HL2]
      clear HL2 hs HL HT
      have c0 := whole_cell hn5 0; have c1 := whole_cell hn5 1; have z0 := whole_frozen hn5 0; have z1 := whole_frozen hn5 1
      have d0 := whole_cell hq5 0; have d1 := whole_cell hq5 1
      simp at c0 c1 d0 d1
      go_wp2_with fail
      refine bodyPost_ret (v := plV p) ?_ rfl ?_
      · simp [results, Try.results47, go_sem, c0, c1, plV]
      · rw [HT4.out]
        exact ⟨rfl, whole_set_ne (whole_set_ne hr5 ⟨w.heap.size, 0, none⟩ hne _) ⟨w.heap.size, 1, none⟩ hne _, ((ha.trans ha5).setCell (Or.inr (Nat.le_refl _)) _).setCell (Or.inr (Nat.le_refl _)) _⟩
    | true =>
      have hlt : j < T.size := by have := (sk_lt hs).1; rw [hlen] at this; exact this
      rw [skS_yes hs] at hr5
      obtain ⟨m', rfl⟩ : ∃ m', m = m' + 1 := ⟨m - 1, by omega⟩
      have HL2 := HL.out
      rw [wantL_yes hs] at HL2
      have hg7 := good (j + 1, k) (by show j + 1 ≤ _; omega)
      have HL3 : Hid _ := HL2
      clear HL2 HL hs
      simp only at hr5 HL3
      go_wp2_with fail
      refine (hF b (j + 1) k T _ hr5 hT (by omega)).mono ?_
      rintro e w5 ⟨he, hr6, ha6⟩
      simp only at hr6 he
      have hn6 : w5.heap[w.heap.size]? = some (.cells #[.string ⟨#[]⟩, .int .i64 0] 76 (0, 0)) := (ha6.block _ (whole_lt hn5) hne).trans hn5
      have hq6 : w5.heap[A]? = some (plO p) := (ha6.block _ (whole_lt hq5) hA).trans hq5
      generalize termF T.data.toList (fac T.data.toList n) (j + 1, k) = r2 at *
      obtain ⟨p2, i2, f2⟩ := r2
      obtain ⟨⟨hh1, hh2⟩, ⟨hh3, hh4, hh5⟩⟩ := hg7
      simp only at hr6 hh1 hh2 hh3 hh4 hh5 HL3 he
      have hP : plV p2 = .agg #[.string (bs p2.1), .int .i64 (p2.2 : Int)] := rfl
      rw [hP] at he
      clear hP
      subst he
      have ha7 : Aside b w w5 := (ha.trans ha5).trans ha6
      have hk1 : (bs p.1).size ≤ 2000 := by rw [bs_size]; omega
      have hk2 : (bs p2.1).size ≤ 2000 := by rw [bs_size]; omega
      have hk3 : (p.2 : Int) ≤ 2000 := by omega
      have hk4 : (p2.2 : Int) ≤ 2000 := by omega
      have d0 := whole_cell hq6 0; have d1 := whole_cell hq6 1; have z0 := whole_frozen hq6 0; have z1 := whole_frozen hq6 1
      simp at d0 d1
      have hAlt := whole_lt hq6
      have hA5 : w5.heap.size ≠ A := by omega
      clear ha6 ha5 hn5 hr5 ha hr hn hq hq5
      go_wp2_with fail
      go_roundg (T.size - i2)
      case measure => omega
      case rel =>
        have e1 : bs p.1 ++ (⟨#[124]⟩ ++ bs p2.1) = bs (p.1 ++ 124 :: p2.1) := by
          rw [show p.1 ++ 124 :: p2.1 = p.1 ++ ([124] ++ p2.1) from rfl, ← bs_append, ← bs_append]; rfl
        rw [e1]
        refine ⟨i2, f2, (p.1 ++ 124 :: p2.1, p.2 + p2.2), m', rfl, by omega, by simp; omega, by simp; omega, by omega, ?_, ?_, ?_, ?_, HL3⟩
        · exact whole_alloc (whole_set_ne (whole_set_ne hr6 ⟨A, 0, none⟩ hA _) ⟨A, 1, none⟩ hA _) _
        · exact ((ha7.setCell (Or.inr hAw) _).setCell (Or.inr hAw) _).alloc _
        · exact whole_alloc (whole_set_ne (whole_set_ne hn6 ⟨A, 0, none⟩ hAR _) ⟨A, 1, none⟩ hAR _) _
        · refine whole_alloc ?_ _
          rw [whole_set (whole_set hq6 0 _) 1 _]
          simp [plO]

set_option maxHeartbeats 1000000 in
theorem brackets_ok (d n : Nat) (hd : d < 4) (hF : PartOK 47 (d + 1) (fun L => wantF L (fac L n))) :
    PartOK 52 d (fun L s => ((wantF L (fac L n) (wd L [40] s)).1, wd L [41] (wantF L (fac L n) (wd L [40] s)).2)) := by
  intro b i f T w h hT hi
  have hb := h.lt
  have hne : w.heap.size ≠ b := by omega
  have hlen : T.data.toList.length = T.size := by simp
  have hgw := (wd_goes T.data.toList [40] (i, f) (by rw [hlen]; exact hi)).2
  rw [hlen] at hgw
  have hd' : decide ((4 : Int) ≤ (d : Int)) = false := by simp; omega
  simp only
  go_enter Try.func52, Try.ntmps52
  go_wp2_with fail
  refine (word_any b i f T ⟨#[40]⟩ _ (h.alloc _) hT (by decide)).mono ?_
  rintro e w1 ⟨rfl, hr1, ha1⟩
  have hr1 : Rd b T (wd T.data.toList [40] (i, f)).1 (wd T.data.toList [40] (i, f)).2 w1 := hr1
  have hn1 := ha1.new hb
  have hg := wantF_good (fac_good T.data.toList n) (wd T.data.toList [40] (i, f)) (by rw [hlen]; exact hgw)
  generalize hs0 : wd T.data.toList [40] (i, f) = s0 at *
  have HS0 : Hid (wd T.data.toList [40] (i, f) = s0) := hs0
  clear hs0
  obtain ⟨i0, f0⟩ := s0
  go_wp2_with fail
  refine (hF b i0 f0 T _ hr1 hT hgw).mono ?_
  rintro e w2 ⟨he, hr2, ha2⟩
  simp only at he hr2
  have hn2 : w2.heap[w.heap.size]? = some (.cells #[.string ⟨#[]⟩, .int .i64 0] 76 (0, 0)) := (ha2.block _ (whole_lt hn1) hne).trans hn1
  generalize hs1 : wantF T.data.toList (fac T.data.toList n) (i0, f0) = s1 at *
  have HS1 : Hid (wantF T.data.toList (fac T.data.toList n) (i0, f0) = s1) := hs1
  clear hs1
  obtain ⟨p1, i1, f1⟩ := s1
  obtain ⟨⟨hg1, hg2⟩, ⟨hg3, hg4, hg5⟩⟩ := hg
  simp only at hr2 hg1 hg2 hg3 hg4 hg5 he
  have hP : plV p1 = .agg #[.string (bs p1.1), .int .i64 (p1.2 : Int)] := rfl
  rw [hP] at he
  clear hP
  subst he
  have hr3 := hr2.alloc (.cells #[.string (bs p1.1), .int .i64 (p1.2 : Int)] 76)
  have hn3 := whole_alloc hn2 (.cells #[.string (bs p1.1), .int .i64 (p1.2 : Int)] 76)
  have hm3 := whole_new w2 (.cells #[.string (bs p1.1), .int .i64 (p1.2 : Int)] 76)
  have hne2 : w2.heap.size ≠ b := by have := hr2.lt; omega
  have ha3 : Aside b w (w2.alloc (.cells #[.string (bs p1.1), .int .i64 (p1.2 : Int)] 76)) := (ha1.below.trans ha2).alloc _
  go_wp2_with fail
  refine (word_any b i1 f1 T ⟨#[41]⟩ _ hr3 hT (by decide)).mono ?_
  rintro e w3 ⟨rfl, hr4, ha4⟩
  have hn4 := (ha4.block _ (whole_lt hn3) hne).trans hn3
  have hm4 := (ha4.block _ (whole_lt hm3) hne2).trans hm3
  have c0 := whole_cell hn4 0; have c1 := whole_cell hn4 1; have z0 := whole_frozen hn4 0; have z1 := whole_frozen hn4 1
  have d0 := whole_cell hm4 0; have d1 := whole_cell hm4 1
  simp at c0 c1 d0 d1
  go_wp2_with fail
  refine bodyPost_ret (v := plV p1) ?_ rfl ?_
  · simp [results, Try.results52, go_sem, c0, c1, plV]
  · rw [HS0.out, HS1.out]
    exact ⟨rfl, whole_set_ne (whole_set_ne hr4 ⟨w.heap.size, 0, none⟩ hne _) ⟨w.heap.size, 1, none⟩ hne _, ((ha3.trans ha4).setCell (Or.inr (Nat.le_refl _)) _).setCell (Or.inr (Nat.le_refl _)) _⟩

set_option maxHeartbeats 1000000 in
theorem brackets_deep : PartOK 52 4 (fun L s => (([], 1), (s.1, true))) := by
  intro b i f T w h hT hi
  have hb := h.lt
  have hne : w.heap.size ≠ b := by omega
  have h2 := h.c2; have z2 := h.z 2
  simp only
  go_enter Try.func52, Try.ntmps52
  go_wp2_with fail
  refine bodyPost_ret (v := plV ([], 1)) ?_ rfl ?_
  · simp [results, Try.results52, go_sem, plV, bs]
  · exact ⟨rfl, whole_alloc (Rd.setFail h) _, ((Aside.refl b w).setCell (Or.inl rfl) _).alloc _⟩

set_option maxHeartbeats 1000000 in
theorem factor_40 (d : Nat) (hd : d ≤ 4) (F : List UInt8 → Nat × Bool → (List UInt8 × Nat) × (Nat × Bool)) (hF : PartOK 52 d F)
    (b i : Nat) (f : Bool) (T : ByteArray) (w : World) (h : Rd b T i f w) (hT : T.size ≤ 600) (hi : i ≤ T.size) (hc : pk T.data.toList (i, f) = 40) :
    Calls Try.prog 50 #[.pointer (some ⟨b, 0, none⟩), .int .i64 (d : Int)] w fun e w' => e = .returned (plV (F T.data.toList (i, f)).1) ∧ Rd b T (F T.data.toList (i, f)).2.1 (F T.data.toList (i, f)).2.2 w' ∧ Aside b w w' := by
  have hb := h.lt
  have hne : w.heap.size ≠ b := by omega
  have h1 := h.c1
  have HC : Hid (pk T.data.toList (i, f) = 40) := hc
  clear hc
  go_enter Try.func50, Try.ntmps50
  go_wp2_with fail
  refine (peek_any b i f T _ (h.alloc _)).mono ?_
  rintro e w1 ⟨rfl, n1, hw1⟩
  have hr1 : Rd b T i f w1 := by rw [hw1]; exact (h.alloc _).drewN n1
  have ha1 : Aside b (w.alloc (.cells #[.string ⟨#[]⟩, .int .i64 0] 76)) w1 := by rw [hw1]; exact (Aside.refl _ _).drewN n1
  clear hw1
  rw [HC.out]
  go_wp2_with fail
  refine (hF b i f T _ hr1 hT hi).mono ?_
  rintro e w2 ⟨he, hr2, ha2⟩
  have hn2 := (ha1.trans ha2).new hb
  generalize hs1 : F T.data.toList (i, f) = s1 at *
  have HS1 : Hid (F T.data.toList (i, f) = s1) := hs1
  clear hs1
  obtain ⟨p1, i1, f1⟩ := s1
  simp only at hr2 he
  have hP : plV p1 = .agg #[.string (bs p1.1), .int .i64 (p1.2 : Int)] := rfl
  rw [hP] at he
  clear hP
  subst he
  have c0 := whole_cell hn2 0; have c1 := whole_cell hn2 1; have z0 := whole_frozen hn2 0; have z1 := whole_frozen hn2 1
  simp at c0 c1
  go_wp2_with fail
  refine bodyPost_ret (v := plV p1) ?_ rfl ?_
  · simp [results, Try.results50, go_sem, c0, c1, plV]
  · rw [HS1.out]
    exact ⟨rfl, whole_set_ne (whole_set_ne hr2 ⟨w.heap.size, 0, none⟩ hne _) ⟨w.heap.size, 1, none⟩ hne _, ((ha1.trans ha2).below.setCell (Or.inr (Nat.le_refl _)) _).setCell (Or.inr (Nat.le_refl _)) _⟩

theorem factor_ok (n : Nat) : ∀ d, d + n = 4 → PartOK 50 d (fun L => fac L n) := by
  induction n with
  | zero =>
    intro d hd b i f T w h hT hi
    have hd : d = 4 := by omega
    subst hd
    by_cases hc : pk T.data.toList (i, f) = 40
    · refine (factor_40 4 (by omega) _ brackets_deep b i f T w h hT hi hc).mono ?_
      intro e w' hp
      simpa [fac, hc] using hp
    · refine (leaf_any b i 4 f T w h hT hi (by omega) hc).mono ?_
      intro e w' hp
      simpa [fac, hc] using hp
  | succ n ih =>
    intro d hd b i f T w h hT hi
    by_cases hc : pk T.data.toList (i, f) = 40
    · have hw := want_ok (d + 1) n (by omega) (term_ok (d + 1) n (by omega) (ih (d + 1) (by omega)))
      refine (factor_40 d (by omega) _ (brackets_ok d n (by omega) hw) b i f T w h hT hi hc).mono ?_
      intro e w' hp
      simpa [fac, hc] using hp
    · refine (leaf_any b i d f T w h hT hi (by omega) hc).mono ?_
      intro e w' hp
      simpa [fac, hc] using hp

/-- The want that stands in no brackets. -/
theorem want_any : PartOK 47 0 (fun L => wantF L (fac L 4)) := want_ok 0 4 (by omega) (term_ok 0 4 (by omega) (factor_ok 4 0 rfl))

end Go.Proofs.Ytkmdmlpkbidpoaa
