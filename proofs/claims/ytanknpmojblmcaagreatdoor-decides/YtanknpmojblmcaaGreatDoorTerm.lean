/-
  A term of a want: out of what its factors do.
-/
import Derived.Test.YtanknpmojblmcaaGreatDoorLeaf
set_option linter.unusedSimpArgs false
set_option linter.unusedVariables false
namespace Go.Proofs.YtanknpmojblmcaaGreatDoor
open Go.RowKit

/-- What the call f of the reader at the depth d hands back and leaves, by the plain functions F and G. -/
def PartOK (fn d : Nat) (F : List UInt8 → Nat × Bool → (List UInt8 × Nat) × (Nat × Bool)) (G : List UInt8 → Nat × Bool → List Stp) : Prop :=
  ∀ (rv : Value) (b i : Nat) (f : Bool) (T : ByteArray) (S : List Stp) (w : World), Rd b rv T i f w → Sr b rv S w → S.length ≤ i → T.size ≤ 600 → i ≤ T.size →
    Calls Tryz.prog fn #[.pointer (some ⟨b, 0, none⟩), .int .i64 (d : Int)] w (Lef rv b T S (G T.data.toList (i, f)) (F T.data.toList (i, f)).1 (F T.data.toList (i, f)).2 w)

theorem skS_no {L : List UInt8} {c : Nat} {s : Nat × Bool} (h : sk L c s = false) : skS L c s = s := by simp [skS, h]
theorem skS_yes {L : List UInt8} {c : Nat} {s : Nat × Bool} (h : sk L c s = true) : skS L c s = (s.1 + 1, s.2) := by simp [skS, h]
theorem termL_no {L : List UInt8} {F : Nat × Bool → (List UInt8 × Nat) × (Nat × Bool)} {n : Nat} {s : Nat × Bool} {t : List UInt8} (h : sk L 38 s = false) : termL L F n s t = (t, s) := by
  cases n <;> simp [termL, h]
theorem termL_yes {L : List UInt8} {F : Nat × Bool → (List UInt8 × Nat) × (Nat × Bool)} {n : Nat} {s : Nat × Bool} {t : List UInt8} (h : sk L 38 s = true) : termL L F (n + 1) s t = termL L F n (F (s.1 + 1, s.2)).2 (t ++ 38 :: asF (F (s.1 + 1, s.2)).1) := by
  simp [termL, h]
theorem pk_sk {L : List UInt8} {s : Nat × Bool} {c : Nat} (h0 : c ≠ 0) : (pk L s = c) ↔ sk L c s = true := by
  constructor
  · intro h
    obtain ⟨h1, h2⟩ := pk_40 h h0
    simp [pk, h1] at h
    simp [sk, h1, h2, h]
  · intro h
    obtain ⟨h1, h2, h3⟩ := sk_lt h
    simp [pk, h2, h3]

set_option maxHeartbeats 2000000 in
theorem term_ok (d n : Nat) (hd : d ≤ 4) (hF : PartOK 152 d (fun L => fac L n) (fun L => facQ L n)) : PartOK 145 d (fun L => termF L (fac L n)) (fun L => termQ L (fac L n) (facQ L n)) := by
  intro rv b i f T S w h hS hSl hT hi
  unfold Lef
  unfold PartOK Lef at hF
  have hb := h.lt
  have hro := hS.new
  have hlen : T.data.toList.length = T.size := by simp
  have good := fac_good T.data.toList n
  have goodQ := facQ_good T.data.toList n
  have hg := good (i, f) (by rw [hlen]; exact hi)
  have hgQ := goodQ (i, f) (by rw [hlen]; exact hi)
  go_enter Tryz.func145, Tryz.ntmps145
  go_wp2_with fail
  refine (hF rv b i f T S _ (h.alloc _) (hS.alloc _) hSl hT hi).mono ?_
  rintro e w1 ⟨he, rv1, hr1, hs1, ha1⟩
  have hn1 := ha1.new hb hro
  have HT : Hid (termF T.data.toList (fac T.data.toList n) (i, f) = if pk T.data.toList (fac T.data.toList n (i, f)).2 = 38 then (((termL T.data.toList (fac T.data.toList n) T.data.toList.length (fac T.data.toList n (i, f)).2 (asF (fac T.data.toList n (i, f)).1)).1, 1), (termL T.data.toList (fac T.data.toList n) T.data.toList.length (fac T.data.toList n (i, f)).2 (asF (fac T.data.toList n (i, f)).1)).2) else fac T.data.toList n (i, f)) := rfl
  have HU : Hid (S ++ termQ T.data.toList (fac T.data.toList n) (facQ T.data.toList n) (i, f) = (S ++ facQ T.data.toList n (i, f)) ++ termLQ T.data.toList (fac T.data.toList n) (facQ T.data.toList n) T.data.toList.length (fac T.data.toList n (i, f)).2) := by
    show _ = _
    rw [List.append_assoc]; rfl
  try simp only at hr1 hg he hs1 hgQ
  have hS1l : (S ++ facQ T.data.toList n (i, f)).length ≤ (fac T.data.toList n (i, f)).2.1 := by simp; omega
  generalize S ++ facQ T.data.toList n (i, f) = S1 at *
  generalize fac T.data.toList n (i, f) = r1 at *
  obtain ⟨p1, i1, f1⟩ := r1
  obtain ⟨⟨hg1, hg2⟩, ⟨hg3, hg4, hg5⟩, hg6⟩ := hg
  simp only at hr1 hg1 hg2 hg3 hg4 hg5 hg6 HT hS1l HU
  have hz1 : w.heap.size + 1 ≤ w1.heap.size := by have := ha1.size; simpa using this
  have hP : plV p1 = .agg #[.string (bs p1.1), .int .i64 (p1.2 : Int)] := rfl
  rw [hP] at he
  clear hP
  subst he
  go_wp2_with fail
  have hr2 : Rd b rv1 T i1 f1 (w1.alloc (.cells #[.string (bs p1.1), .int .i64 (p1.2 : Int)] 187)) := hr1.alloc _
  refine (peek_any b i1 f1 T _ hr2).mono ?_
  rintro e w2 ⟨rfl, n2, hw2⟩
  have hn2 : w2.heap[w.heap.size]? = some (.cells #[.string ⟨#[]⟩, .int .i64 0] 187 (0, 0)) := by rw [hw2]; exact whole_alloc hn1 _
  have hm2 : w2.heap[w1.heap.size]? = some (.cells #[.string (bs p1.1), .int .i64 (p1.2 : Int)] 187 (0, 0)) := by rw [hw2]; exact whole_new w1 _
  have hr3 : Rd b rv1 T i1 f1 w2 := by rw [hw2]; exact hr2.drewN n2
  have hs3 : Sr b rv1 S1 w2 := by rw [hw2]; exact (hs1.alloc _).drewN n2
  have ha2 : AsV b rv rv1 w w2 := by rw [hw2]; exact (ha1.below.alloc _).drewN n2
  have c0 := whole_cell hn2 0; have c1 := whole_cell hn2 1; have z0 := whole_frozen hn2 0; have z1 := whole_frozen hn2 1
  have d0 := whole_cell hm2 0; have d1 := whole_cell hm2 1
  simp at c0 c1 d0 d1
  have hne : w.heap.size ≠ b := by omega
  clear hw2 hr2 hr1 ha1 hn1 hs1 hgQ
  by_cases h38 : pk T.data.toList (i1, f1) = 38
  · rw [h38]
    have HT2 := HT.out
    rw [if_pos h38] at HT2
    have HT3 : Hid _ := HT2
    clear HT2 HT h38
    go_wp2_with fail
    have hq1 : p1.1.length ≤ 3000 := by omega
    have hq2 : p1.2 ≤ 3000 := by omega
    refine (asFactor_any p1 _ hq1 hq2).mono ?_
    rintro e w3 ⟨rfl, o3, hw3⟩
    have hn3 : w3.heap[w.heap.size]? = some (.cells #[.string ⟨#[]⟩, .int .i64 0] 187 (0, 0)) := by rw [hw3]; exact whole_alloc hn2 _
    have hr4 : Rd b rv1 T i1 f1 w3 := by rw [hw3]; exact hr3.alloc _
    have hs4 : Sr b rv1 S1 w3 := by rw [hw3]; exact hs3.alloc _
    have ha3 : AsV b rv rv1 w w3 := by rw [hw3]; exact ha2.alloc _
    clear hw3 c0 c1 d0 d1 z0 z1 hm2 hr3 ha2 hn2 hq1 hq2 hs3
    go_wp2_with fail
    go_loopg [6] (T.size - i1) (fun g x wr => ∃ (j : Nat) (k : Bool) (t : List UInt8) (m : Nat) (rk : Value) (Sk : List Stp), g = T.size - j ∧ j ≤ T.size ∧ x = .string (bs t) ∧ t.length ≤ 3 * j ∧ T.size - j ≤ m ∧ Sk.length ≤ j ∧ Rd b rk T j k wr ∧ Sr b rk Sk wr ∧ AsV b rv rk w wr ∧ wr.heap[w.heap.size]? = some (.cells #[.string ⟨#[]⟩, .int .i64 0] 187 (0, 0)) ∧ Hid (termL T.data.toList (fac T.data.toList n) T.data.toList.length (i1, f1) (asF p1) = termL T.data.toList (fac T.data.toList n) m (j, k) t) ∧ Hid (S1 ++ termLQ T.data.toList (fac T.data.toList n) (facQ T.data.toList n) T.data.toList.length (i1, f1) = Sk ++ termLQ T.data.toList (fac T.data.toList n) (facQ T.data.toList n) m (j, k)))
    case atStart => exact ⟨i1, f1, asF p1, T.data.toList.length, rv1, S1, rfl, by omega, rfl, by omega, by omega, hS1l, hr4, hs4, ha3, hn3, rfl, rfl⟩
    case round =>
      obtain ⟨j, k, t, m, rk, Sk, rfl, hj, rfl, ht, hm, hSk, hr, hs', ha, hn, HL, HM⟩ := hrel
      go_wp2_with fail
      refine (skip_any b j 38 k T _ hr hT).mono ?_
      rintro e w4 ⟨rfl, hr5, ha5⟩
      have hs5 := hs'.kept ha5
      have hn5 : w4.heap[w.heap.size]? = some (.cells #[.string ⟨#[]⟩, .int .i64 0] 187 (0, 0)) := (ha5.block _ (whole_lt hn) hne).trans hn
      have hqo := hs5.other hn5 (by decide)
      cases hs : sk T.data.toList 38 (j, k) with
      | false =>
        rw [skS_no hs] at hr5
        have HL2 := HL.out
        rw [termL_no hs] at HL2
        have HM2 := HM.out
        rw [termLQ_no hs, List.append_nil] at HM2
        have HT4 : Hid (termF T.data.toList (fac T.data.toList n) (i, f) = ((t, 1), (j, k))) := by show _ = _; rw [HT3.out, HL2]
        have HU4 : Hid (S ++ termQ T.data.toList (fac T.data.toList n) (facQ T.data.toList n) (i, f) = Sk) := by show _ = _; rw [HU.out, HM2]
        clear HL2 hs HL HT3 HM2 HM HU
        have c0 := whole_cell hn5 0; have c1 := whole_cell hn5 1; have z0 := whole_frozen hn5 0; have z1 := whole_frozen hn5 1
        simp at c0 c1
        go_wp2_with fail
        refine bodyPost_ret (v := plV (t, 1)) ?_ rfl ?_
        · simp [results, Tryz.results145, go_sem, c0, c1, plV]
        · rw [HT4.out, HU4.out]
          refine ⟨rfl, rk, whole_set_ne (whole_set_ne hr5 ⟨w.heap.size, 0, none⟩ hne _) ⟨w.heap.size, 1, none⟩ hne _, ?_, ((ha.then ha5).setCell (Or.inr (Nat.le_refl _)) _).setCell (Or.inr (Nat.le_refl _)) _⟩
          exact Sr.setCell (p := ⟨w.heap.size, 1, none⟩) (Sr.setCell (p := ⟨w.heap.size, 0, none⟩) hs5 hqo _) hqo _
      | true =>
        have hlt : j < T.size := by have := (sk_lt hs).1; rw [hlen] at this; exact this
        rw [skS_yes hs] at hr5
        obtain ⟨m', rfl⟩ : ∃ m', m = m' + 1 := ⟨m - 1, by omega⟩
        have HL2 := HL.out
        rw [termL_yes hs] at HL2
        have HM2 := HM.out
        rw [termLQ_yes hs] at HM2
        have hg7 := good (j + 1, k) (by show j + 1 ≤ _; omega)
        have hg8 := goodQ (j + 1, k) (by show j + 1 ≤ _; omega)
        have HL3 : Hid _ := HL2
        have HM3 : Hid (S1 ++ termLQ T.data.toList (fac T.data.toList n) (facQ T.data.toList n) T.data.toList.length (i1, f1) = ((Sk ++ facQ T.data.toList n (j + 1, k)) ++ [stp 5]) ++ termLQ T.data.toList (fac T.data.toList n) (facQ T.data.toList n) m' (fac T.data.toList n (j + 1, k)).2) := by
          show _ = _
          rw [HM2]; simp
        clear HL2 HL hs HM2 HM
        simp only at hr5 HL3 HM3
        go_wp2_with fail
        refine (hF rk b (j + 1) k T Sk _ hr5 hs5 (by omega) hT (by omega)).mono ?_
        rintro e w5 ⟨he, rk6, hr6, hs6, ha6⟩
        try simp only at hr6 he hs6
        have hn6 : w5.heap[w.heap.size]? = some (.cells #[.string ⟨#[]⟩, .int .i64 0] 187 (0, 0)) := (ha6.block _ (whole_lt hn5) hne hqo).trans hn5
        have hS6l : (Sk ++ facQ T.data.toList n (j + 1, k)).length + 1 ≤ (fac T.data.toList n (j + 1, k)).2.1 := by simp at hg8 ⊢; omega
        generalize Sk ++ facQ T.data.toList n (j + 1, k) = S6 at *
        generalize fac T.data.toList n (j + 1, k) = r2 at *
        obtain ⟨p2, i2, f2⟩ := r2
        obtain ⟨⟨hh1, hh2⟩, ⟨hh3, hh4, hh5⟩, hh6⟩ := hg7
        simp only at hr6 hh1 hh2 hh3 hh4 hh5 hh6 HL3 he hS6l HM3
        have hP : plV p2 = .agg #[.string (bs p2.1), .int .i64 (p2.2 : Int)] := rfl
        rw [hP] at he
        clear hP
        subst he
        have ha7 := ((ha.then ha5).trans ha6).alloc (.cells #[.string (bs p2.1), .int .i64 (p2.2 : Int)] 187)
        have hr7 := hr6.alloc (.cells #[.string (bs p2.1), .int .i64 (p2.2 : Int)] 187)
        have hs7 := hs6.alloc (.cells #[.string (bs p2.1), .int .i64 (p2.2 : Int)] 187)
        have hn7 := whole_alloc hn6 (.cells #[.string (bs p2.1), .int .i64 (p2.2 : Int)] 187)
        have hm7 := whole_new w5 (.cells #[.string (bs p2.1), .int .i64 (p2.2 : Int)] 187 (0, 0))
        have hne5 : w5.heap.size ≠ b := by have := hr6.lt; omega
        clear ha6 ha5 ha hr6 hs6 hn6 hr5 hs5 hn5 hr hs' hn hqo hg8
        go_wp2_with fail
        refine (laySt_any b i2 f2 T S6 (stp 5) _ hr7 hs7 (by omega)).mono ?_
        rintro e w8 ⟨rfl, rk8, hr8, hs8, ha8⟩
        have hn8 := (ha8.block _ (whole_lt hn7) hne (hs7.other hn7 (by decide))).trans hn7
        have hm8 := (ha8.block _ (whole_lt hm7) hne5 (hs7.other hm7 (by decide))).trans hm7
        replace ha8 := ha7.trans ha8
        have d0 := whole_cell hm8 0; have d1 := whole_cell hm8 1
        simp at d0 d1
        clear hm7 hn7 hs7 hr7 ha7
        go_wp2_with fail
        have hq1 : p2.1.length ≤ 3000 := by omega
        have hq2 : p2.2 ≤ 3000 := by omega
        refine (asFactor_any p2 _ hq1 hq2).mono ?_
        rintro e w6 ⟨rfl, o6, hw6⟩
        have hn9 : w6.heap[w.heap.size]? = some (.cells #[.string ⟨#[]⟩, .int .i64 0] 187 (0, 0)) := by rw [hw6]; exact whole_alloc hn8 _
        have hr9 : Rd b rk8 T i2 f2 w6 := by rw [hw6]; exact hr8.alloc _
        have hs9 : Sr b rk8 (S6 ++ [stp 5]) w6 := by rw [hw6]; exact hs8.alloc _
        have ha9 : AsV b rv rk8 w w6 := by rw [hw6]; exact ha8.alloc _
        have hk1 : (bs t).size ≤ 2000 := by rw [bs_size]; omega
        have hk2 : (bs (asF p2)).size ≤ 2000 := by rw [bs_size]; omega
        clear hw6 hr8 hs8 ha8 hn8 hm8 d0 d1
        go_wp2_with fail
        go_roundg (T.size - i2)
        case measure => omega
        case rel =>
          refine ⟨i2, f2, t ++ 38 :: asF p2, m', rk8, S6 ++ [stp 5], rfl, by omega, ?_, ?_, by omega, by simp; omega, hr9, hs9, ha9, hn9, HL3, HM3⟩
          · rw [show t ++ 38 :: asF p2 = t ++ ([38] ++ asF p2) from rfl, ← bs_append, ← bs_append]; rfl
          · simp; omega
  · have HT2 := HT.out
    rw [if_neg h38] at HT2
    have HT3 : Hid (termF T.data.toList (fac T.data.toList n) (i, f) = (p1, i1, f1)) := HT2
    have hsk : sk T.data.toList 38 (i1, f1) = false := by
      cases h : sk T.data.toList 38 (i1, f1) with
      | false => rfl
      | true => exact absurd ((pk_sk (by decide)).2 h) h38
    have HU3 : Hid (S ++ termQ T.data.toList (fac T.data.toList n) (facQ T.data.toList n) (i, f) = S1) := by show _ = _; rw [HU.out, termLQ_no hsk, List.append_nil]
    have hqo := hs3.other hn2 (by decide)
    clear HT2 HT hsk HU
    have hpl := pk_lt T.data.toList (i1, f1)
    generalize pk T.data.toList (i1, f1) = c at *
    have hb1 : ((c : Int) != 38) = true := by rw [bne_iff_ne]; omega
    go_wp2_with fail
    refine bodyPost_ret (v := plV p1) ?_ rfl ?_
    · simp [results, Tryz.results145, go_sem, c0, c1, plV]
    · rw [HT3.out, HU3.out]
      refine ⟨rfl, rv1, whole_set_ne (whole_set_ne hr3 ⟨w.heap.size, 0, none⟩ hne _) ⟨w.heap.size, 1, none⟩ hne _, ?_, (ha2.setCell (Or.inr (Nat.le_refl _)) _).setCell (Or.inr (Nat.le_refl _)) _⟩
      exact Sr.setCell (p := ⟨w.heap.size, 1, none⟩) (Sr.setCell (p := ⟨w.heap.size, 0, none⟩) hs3 hqo _) hqo _

end Go.Proofs.YtanknpmojblmcaaGreatDoor
