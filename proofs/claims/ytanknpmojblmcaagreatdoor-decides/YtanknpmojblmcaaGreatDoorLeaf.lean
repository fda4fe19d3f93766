/-
  A factor that has no brackets.
-/
import Derived.Test.YtanknpmojblmcaaGreatDoorAsF
set_option linter.unusedSimpArgs false
set_option linter.unusedVariables false
namespace Go.Proofs.YtanknpmojblmcaaGreatDoor
open Go.RowKit

/-- What a call of the reader hands back and leaves. -/
def Lef (rv : Value) (b : Nat) (T : ByteArray) (S Q : List Stp) (p : List UInt8 × Nat) (s : Nat × Bool) (w : World) (e : Ending) (w' : World) : Prop :=
  e = .returned (plV p) ∧ ∃ rv', Rd b rv' T s.1 s.2 w' ∧ Sr b rv' (S ++ Q) w' ∧ AsV b rv rv' w w'

set_option maxHeartbeats 1000000 in
theorem factor_s {rv : Value} (b i d : Nat) (f : Bool) (T : ByteArray) (S : List Stp) (w : World) (h : Rd b rv T i f w) (hS : Sr b rv S w) (hl : S.length ≤ 3000) (hT : T.size ≤ 600) (hi : i ≤ T.size) (hd : d ≤ 4) (hc : pk T.data.toList (i, f) = 115) :
    Calls Tryz.prog 152 #[.pointer (some ⟨b, 0, none⟩), .int .i64 (d : Int)] w (Lef rv b T S (leafQ T.data.toList (i, f)) (cut T.data.toList i (leafS T.data.toList (i, f)).1, 1) (leafS T.data.toList (i, f)) w) := by
  unfold Lef
  have hL : Hid (leafS T.data.toList (i, f) = wd T.data.toList [115, 105, 110, 103, 108, 101] (i, f)) := by show _ = _; simp [leafS, hc]
  have hQ : Hid (leafQ T.data.toList (i, f) = [stp 4]) := by show _ = _; simp [leafQ, hc]
  have hg := leafS_goes T.data.toList (i, f) (by simpa using hi)
  have hg1 : i ≤ (leafS T.data.toList (i, f)).1 := hg.1
  have hg2 : (leafS T.data.toList (i, f)).1 ≤ T.size := by simpa using hg.2
  have hb := h.lt
  have hro := hS.new
  have h1 := h.c1
  have HC : Hid (pk T.data.toList (i, f) = 115) := hc
  clear hc hg
  go_enter Tryz.func152, Tryz.ntmps152
  go_wp2_with fail
  refine (peek_any b i f T _ (h.alloc _)).mono ?_
  rintro e w1 ⟨rfl, n1, hw1⟩
  subst hw1
  rw [HC.out]
  go_wp2_with fail
  refine (word_any b i f T ⟨#[115, 105, 110, 103, 108, 101]⟩ _ ((h.alloc _).drewN n1) hT (by decide)).mono ?_
  rintro e w0 ⟨rfl, hr0, ha1⟩
  have hr0 : Rd b rv T (wd T.data.toList [115, 105, 110, 103, 108, 101] (i, f)).1 (wd T.data.toList [115, 105, 110, 103, 108, 101] (i, f)).2 w0 := hr0
  have ha2 : Aside b (w.alloc (.cells #[.string ⟨#[]⟩, .int .i64 0] 187)) w0 := ⟨ha1.os, ha1.tape, ha1.output, ha1.size, ha1.block⟩
  have hs0 := (hS.alloc (.cells #[.string ⟨#[]⟩, .int .i64 0] 187)).kept ha2
  go_wp2_with fail
  refine (laySt_any b _ _ T S (stp 4) _ hr0 hs0 (by omega)).mono ?_
  rintro e w1 ⟨rfl, rv', hr, hs, ha3⟩
  have ha0 := (AsV.of ha2).trans ha3
  clear ha1 ha2 ha3 hr0 hs0
  rw [← hL.out] at hr
  rw [← hQ.out] at hs
  clear hL hQ
  generalize hs1 : leafS T.data.toList (i, f) = s1 at *
  obtain ⟨i1, f1⟩ := s1
  have HS : Hid (leafS T.data.toList (i, f) = (i1, f1)) := hs1
  clear hs1
  simp only at hr hg1 hg2
  have hn := ha0.new hb hro
  have r0 := hr.c0; have r1 := hr.c1
  have n0 := whole_cell hn 0; have n1' := whole_cell hn 1; have z0 := whole_frozen hn 0; have z1 := whole_frozen hn 1
  simp at n0 n1'
  have g1 : (i : Int) ≤ (i1 : Int) := by omega
  have g2 : (i1 : Int) ≤ (T.size : Int) := by omega
  have hqo := hs.other hn (by decide)
  clear h HC
  go_wp2_with fail
  go_region
  go_wp2_with fail
  refine bodyPost_ret (v := plV (cut T.data.toList i i1, 1)) ?_ rfl ?_
  · rw [bs_extract]
    simp [results, Tryz.results152, go_sem, n0, n1', plV]
  · have hne : w.heap.size ≠ b := by omega
    rw [HS.out]
    refine ⟨rfl, rv', whole_set_ne (whole_set_ne hr ⟨w.heap.size, 0, none⟩ hne _) ⟨w.heap.size, 1, none⟩ hne _, ?_, ?_⟩
    · exact Sr.setCell (p := ⟨w.heap.size, 1, none⟩) (Sr.setCell (p := ⟨w.heap.size, 0, none⟩) hs hqo _) hqo _
    · exact ((ha0.below.setCell (Or.inr (Nat.le_refl _)) _).setCell (Or.inr (Nat.le_refl _)) _).drewN 1

set_option maxHeartbeats 1000000 in
theorem factor_o {rv : Value} (b i d : Nat) (f : Bool) (T : ByteArray) (S : List Stp) (w : World) (h : Rd b rv T i f w) (hS : Sr b rv S w) (hl : S.length ≤ 3000) (hT : T.size ≤ 600) (hi : i ≤ T.size) (hd : d ≤ 4) (hc : pk T.data.toList (i, f) = 111) :
    Calls Tryz.prog 152 #[.pointer (some ⟨b, 0, none⟩), .int .i64 (d : Int)] w (Lef rv b T S (leafQ T.data.toList (i, f)) (cut T.data.toList i (leafS T.data.toList (i, f)).1, 1) (leafS T.data.toList (i, f)) w) := by
  unfold Lef
  have hL : Hid (leafS T.data.toList (i, f) = refS T.data.toList (wd T.data.toList [111, 107, 58] (i, f))) := by show _ = _; simp [leafS, hc]
  have hQ : Hid (leafQ T.data.toList (i, f) = [refQ T.data.toList 1 (wd T.data.toList [111, 107, 58] (i, f))]) := by show _ = _; simp [leafQ, hc]
  have hg := leafS_goes T.data.toList (i, f) (by simpa using hi)
  have hg1 : i ≤ (leafS T.data.toList (i, f)).1 := hg.1
  have hg2 : (leafS T.data.toList (i, f)).1 ≤ T.size := by simpa using hg.2
  have hb := h.lt
  have hro := hS.new
  have h1 := h.c1
  have HC : Hid (pk T.data.toList (i, f) = 111) := hc
  clear hc hg
  go_enter Tryz.func152, Tryz.ntmps152
  go_wp2_with fail
  refine (peek_any b i f T _ (h.alloc _)).mono ?_
  rintro e w1 ⟨rfl, n1, hw1⟩
  subst hw1
  rw [HC.out]
  go_wp2_with fail
  refine (word_any b i f T ⟨#[111, 107, 58]⟩ _ ((h.alloc _).drewN n1) hT (by decide)).mono ?_
  rintro e w0 ⟨rfl, hr0, ha1⟩
  have hr0 : Rd b rv T (wd T.data.toList [111, 107, 58] (i, f)).1 (wd T.data.toList [111, 107, 58] (i, f)).2 w0 := hr0
  have hgw := (wd_goes T.data.toList [111, 107, 58] (i, f) (by simpa using hi)).2
  have ha2 : Aside b (w.alloc (.cells #[.string ⟨#[]⟩, .int .i64 0] 187)) w0 := ⟨ha1.os, ha1.tape, ha1.output, ha1.size, ha1.block⟩
  have hs0 := (hS.alloc (.cells #[.string ⟨#[]⟩, .int .i64 0] 187)).kept ha2
  generalize wd T.data.toList [111, 107, 58] (i, f) = s0 at *
  obtain ⟨i0, f0⟩ := s0
  go_wp2_with fail
  refine (ref_any b i0 1 f0 T S _ hr0 hs0 (by omega) hT (by simpa using hgw)).mono ?_
  rintro e w1 ⟨rfl, rv', hr, hs, ha3⟩
  have ha0 := (AsV.of ha2).trans ha3
  clear ha1 ha2 ha3 hr0 hs0 hgw
  rw [← hL.out] at hr
  rw [← hQ.out] at hs
  clear hL hQ
  generalize hs1 : leafS T.data.toList (i, f) = s1 at *
  obtain ⟨i1, f1⟩ := s1
  have HS : Hid (leafS T.data.toList (i, f) = (i1, f1)) := hs1
  clear hs1
  simp only at hr hg1 hg2
  have hn := ha0.new hb hro
  have r0 := hr.c0; have r1 := hr.c1
  have n0 := whole_cell hn 0; have n1' := whole_cell hn 1; have z0 := whole_frozen hn 0; have z1 := whole_frozen hn 1
  simp at n0 n1'
  have g1 : (i : Int) ≤ (i1 : Int) := by omega
  have g2 : (i1 : Int) ≤ (T.size : Int) := by omega
  have hqo := hs.other hn (by decide)
  clear h HC
  go_wp2_with fail
  go_region
  go_wp2_with fail
  refine bodyPost_ret (v := plV (cut T.data.toList i i1, 1)) ?_ rfl ?_
  · rw [bs_extract]
    simp [results, Tryz.results152, go_sem, n0, n1', plV]
  · have hne : w.heap.size ≠ b := by omega
    rw [HS.out]
    refine ⟨rfl, rv', whole_set_ne (whole_set_ne hr ⟨w.heap.size, 0, none⟩ hne _) ⟨w.heap.size, 1, none⟩ hne _, ?_, ?_⟩
    · exact Sr.setCell (p := ⟨w.heap.size, 1, none⟩) (Sr.setCell (p := ⟨w.heap.size, 0, none⟩) hs hqo _) hqo _
    · exact ((ha0.below.setCell (Or.inr (Nat.le_refl _)) _).setCell (Or.inr (Nat.le_refl _)) _).drewN 1

set_option maxHeartbeats 1000000 in
theorem factor_a {rv : Value} (b i d : Nat) (f : Bool) (T : ByteArray) (S : List Stp) (w : World) (h : Rd b rv T i f w) (hS : Sr b rv S w) (hl : S.length ≤ 3000) (hT : T.size ≤ 600) (hi : i ≤ T.size) (hd : d ≤ 4) (hc : pk T.data.toList (i, f) = 97) :
    Calls Tryz.prog 152 #[.pointer (some ⟨b, 0, none⟩), .int .i64 (d : Int)] w (Lef rv b T S (leafQ T.data.toList (i, f)) (cut T.data.toList i (leafS T.data.toList (i, f)).1, 1) (leafS T.data.toList (i, f)) w) := by
  unfold Lef
  have hL : Hid (leafS T.data.toList (i, f) = refS T.data.toList (wd T.data.toList [97, 110, 121, 58] (i, f))) := by show _ = _; simp [leafS, hc]
  have hQ : Hid (leafQ T.data.toList (i, f) = [refQ T.data.toList 2 (wd T.data.toList [97, 110, 121, 58] (i, f))]) := by show _ = _; simp [leafQ, hc]
  have hg := leafS_goes T.data.toList (i, f) (by simpa using hi)
  have hg1 : i ≤ (leafS T.data.toList (i, f)).1 := hg.1
  have hg2 : (leafS T.data.toList (i, f)).1 ≤ T.size := by simpa using hg.2
  have hb := h.lt
  have hro := hS.new
  have h1 := h.c1
  have HC : Hid (pk T.data.toList (i, f) = 97) := hc
  clear hc hg
  go_enter Tryz.func152, Tryz.ntmps152
  go_wp2_with fail
  refine (peek_any b i f T _ (h.alloc _)).mono ?_
  rintro e w1 ⟨rfl, n1, hw1⟩
  subst hw1
  rw [HC.out]
  go_wp2_with fail
  refine (word_any b i f T ⟨#[97, 110, 121, 58]⟩ _ ((h.alloc _).drewN n1) hT (by decide)).mono ?_
  rintro e w0 ⟨rfl, hr0, ha1⟩
  have hr0 : Rd b rv T (wd T.data.toList [97, 110, 121, 58] (i, f)).1 (wd T.data.toList [97, 110, 121, 58] (i, f)).2 w0 := hr0
  have hgw := (wd_goes T.data.toList [97, 110, 121, 58] (i, f) (by simpa using hi)).2
  have ha2 : Aside b (w.alloc (.cells #[.string ⟨#[]⟩, .int .i64 0] 187)) w0 := ⟨ha1.os, ha1.tape, ha1.output, ha1.size, ha1.block⟩
  have hs0 := (hS.alloc (.cells #[.string ⟨#[]⟩, .int .i64 0] 187)).kept ha2
  generalize wd T.data.toList [97, 110, 121, 58] (i, f) = s0 at *
  obtain ⟨i0, f0⟩ := s0
  go_wp2_with fail
  refine (ref_any b i0 2 f0 T S _ hr0 hs0 (by omega) hT (by simpa using hgw)).mono ?_
  rintro e w1 ⟨rfl, rv', hr, hs, ha3⟩
  have ha0 := (AsV.of ha2).trans ha3
  clear ha1 ha2 ha3 hr0 hs0 hgw
  rw [← hL.out] at hr
  rw [← hQ.out] at hs
  clear hL hQ
  generalize hs1 : leafS T.data.toList (i, f) = s1 at *
  obtain ⟨i1, f1⟩ := s1
  have HS : Hid (leafS T.data.toList (i, f) = (i1, f1)) := hs1
  clear hs1
  simp only at hr hg1 hg2
  have hn := ha0.new hb hro
  have r0 := hr.c0; have r1 := hr.c1
  have n0 := whole_cell hn 0; have n1' := whole_cell hn 1; have z0 := whole_frozen hn 0; have z1 := whole_frozen hn 1
  simp at n0 n1'
  have g1 : (i : Int) ≤ (i1 : Int) := by omega
  have g2 : (i1 : Int) ≤ (T.size : Int) := by omega
  have hqo := hs.other hn (by decide)
  clear h HC
  go_wp2_with fail
  go_region
  go_wp2_with fail
  refine bodyPost_ret (v := plV (cut T.data.toList i i1, 1)) ?_ rfl ?_
  · rw [bs_extract]
    simp [results, Tryz.results152, go_sem, n0, n1', plV]
  · have hne : w.heap.size ≠ b := by omega
    rw [HS.out]
    refine ⟨rfl, rv', whole_set_ne (whole_set_ne hr ⟨w.heap.size, 0, none⟩ hne _) ⟨w.heap.size, 1, none⟩ hne _, ?_, ?_⟩
    · exact Sr.setCell (p := ⟨w.heap.size, 1, none⟩) (Sr.setCell (p := ⟨w.heap.size, 0, none⟩) hs hqo _) hqo _
    · exact ((ha0.below.setCell (Or.inr (Nat.le_refl _)) _).setCell (Or.inr (Nat.le_refl _)) _).drewN 1

set_option maxHeartbeats 1000000 in
theorem factor_n {rv : Value} (b i d : Nat) (f : Bool) (T : ByteArray) (S : List Stp) (w : World) (h : Rd b rv T i f w) (hS : Sr b rv S w) (hl : S.length ≤ 3000) (hT : T.size ≤ 600) (hi : i ≤ T.size) (hd : d ≤ 4) (hc : pk T.data.toList (i, f) = 110) :
    Calls Tryz.prog 152 #[.pointer (some ⟨b, 0, none⟩), .int .i64 (d : Int)] w (Lef rv b T S (leafQ T.data.toList (i, f)) (cut T.data.toList i (leafS T.data.toList (i, f)).1, 1) (leafS T.data.toList (i, f)) w) := by
  unfold Lef
  have hL : Hid (leafS T.data.toList (i, f) = refS T.data.toList (wd T.data.toList [110, 111, 116, 58] (i, f))) := by show _ = _; simp [leafS, hc]
  have hQ : Hid (leafQ T.data.toList (i, f) = [refQ T.data.toList 3 (wd T.data.toList [110, 111, 116, 58] (i, f))]) := by show _ = _; simp [leafQ, hc]
  have hg := leafS_goes T.data.toList (i, f) (by simpa using hi)
  have hg1 : i ≤ (leafS T.data.toList (i, f)).1 := hg.1
  have hg2 : (leafS T.data.toList (i, f)).1 ≤ T.size := by simpa using hg.2
  have hb := h.lt
  have hro := hS.new
  have h1 := h.c1
  have HC : Hid (pk T.data.toList (i, f) = 110) := hc
  clear hc hg
  go_enter Tryz.func152, Tryz.ntmps152
  go_wp2_with fail
  refine (peek_any b i f T _ (h.alloc _)).mono ?_
  rintro e w1 ⟨rfl, n1, hw1⟩
  subst hw1
  rw [HC.out]
  go_wp2_with fail
  refine (word_any b i f T ⟨#[110, 111, 116, 58]⟩ _ ((h.alloc _).drewN n1) hT (by decide)).mono ?_
  rintro e w0 ⟨rfl, hr0, ha1⟩
  have hr0 : Rd b rv T (wd T.data.toList [110, 111, 116, 58] (i, f)).1 (wd T.data.toList [110, 111, 116, 58] (i, f)).2 w0 := hr0
  have hgw := (wd_goes T.data.toList [110, 111, 116, 58] (i, f) (by simpa using hi)).2
  have ha2 : Aside b (w.alloc (.cells #[.string ⟨#[]⟩, .int .i64 0] 187)) w0 := ⟨ha1.os, ha1.tape, ha1.output, ha1.size, ha1.block⟩
  have hs0 := (hS.alloc (.cells #[.string ⟨#[]⟩, .int .i64 0] 187)).kept ha2
  generalize wd T.data.toList [110, 111, 116, 58] (i, f) = s0 at *
  obtain ⟨i0, f0⟩ := s0
  go_wp2_with fail
  refine (ref_any b i0 3 f0 T S _ hr0 hs0 (by omega) hT (by simpa using hgw)).mono ?_
  rintro e w1 ⟨rfl, rv', hr, hs, ha3⟩
  have ha0 := (AsV.of ha2).trans ha3
  clear ha1 ha2 ha3 hr0 hs0 hgw
  rw [← hL.out] at hr
  rw [← hQ.out] at hs
  clear hL hQ
  generalize hs1 : leafS T.data.toList (i, f) = s1 at *
  obtain ⟨i1, f1⟩ := s1
  have HS : Hid (leafS T.data.toList (i, f) = (i1, f1)) := hs1
  clear hs1
  simp only at hr hg1 hg2
  have hn := ha0.new hb hro
  have r0 := hr.c0; have r1 := hr.c1
  have n0 := whole_cell hn 0; have n1' := whole_cell hn 1; have z0 := whole_frozen hn 0; have z1 := whole_frozen hn 1
  simp at n0 n1'
  have g1 : (i : Int) ≤ (i1 : Int) := by omega
  have g2 : (i1 : Int) ≤ (T.size : Int) := by omega
  have hqo := hs.other hn (by decide)
  clear h HC
  go_wp2_with fail
  go_region
  go_wp2_with fail
  refine bodyPost_ret (v := plV (cut T.data.toList i i1, 1)) ?_ rfl ?_
  · rw [bs_extract]
    simp [results, Tryz.results152, go_sem, n0, n1', plV]
  · have hne : w.heap.size ≠ b := by omega
    rw [HS.out]
    refine ⟨rfl, rv', whole_set_ne (whole_set_ne hr ⟨w.heap.size, 0, none⟩ hne _) ⟨w.heap.size, 1, none⟩ hne _, ?_, ?_⟩
    · exact Sr.setCell (p := ⟨w.heap.size, 1, none⟩) (Sr.setCell (p := ⟨w.heap.size, 0, none⟩) hs hqo _) hqo _
    · exact ((ha0.below.setCell (Or.inr (Nat.le_refl _)) _).setCell (Or.inr (Nat.le_refl _)) _).drewN 1

set_option maxHeartbeats 1000000 in
theorem factor_d {rv : Value} (b i d : Nat) (f : Bool) (T : ByteArray) (S : List Stp) (w : World) (h : Rd b rv T i f w) (hS : Sr b rv S w) (hl : S.length ≤ 3000) (hT : T.size ≤ 600) (hi : i ≤ T.size) (hd : d ≤ 4) (hc : pk T.data.toList (i, f) ≠ 40 ∧ pk T.data.toList (i, f) ≠ 115 ∧ pk T.data.toList (i, f) ≠ 111 ∧ pk T.data.toList (i, f) ≠ 97 ∧ pk T.data.toList (i, f) ≠ 110) :
    Calls Tryz.prog 152 #[.pointer (some ⟨b, 0, none⟩), .int .i64 (d : Int)] w (Lef rv b T S (leafQ T.data.toList (i, f)) (cut T.data.toList i (leafS T.data.toList (i, f)).1, 1) (leafS T.data.toList (i, f)) w) := by
  unfold Lef
  have hL : Hid (leafS T.data.toList (i, f) = (i, true)) := by show _ = _; simp [leafS, hc]
  have hQ : Hid (leafQ T.data.toList (i, f) = []) := by show _ = _; simp [leafQ, hc]
  have hg := leafS_goes T.data.toList (i, f) (by simpa using hi)
  have hg1 : i ≤ (leafS T.data.toList (i, f)).1 := hg.1
  have hg2 : (leafS T.data.toList (i, f)).1 ≤ T.size := by simpa using hg.2
  have hb := h.lt
  have hro := hS.new
  have h1 := h.c1
  have hlt := pk_lt T.data.toList (i, f)
  go_enter Tryz.func152, Tryz.ntmps152
  go_wp2_with fail
  refine (peek_any b i f T _ (h.alloc _)).mono ?_
  rintro e w1 ⟨rfl, n1, hw1⟩
  subst hw1
  generalize pk T.data.toList (i, f) = c at *
  obtain ⟨c1, c2, c3, c4, c5⟩ := hc
  have b1 : ((c : Int) == 40) = false := by rw [beq_eq_false_iff_ne]; omega
  have b2 : ((c : Int) == 115) = false := by rw [beq_eq_false_iff_ne]; omega
  have b3 : ((c : Int) == 111) = false := by rw [beq_eq_false_iff_ne]; omega
  have b4 : ((c : Int) == 97) = false := by rw [beq_eq_false_iff_ne]; omega
  have b5 : ((c : Int) == 110) = false := by rw [beq_eq_false_iff_ne]; omega
  clear c1 c2 c3 c4 c5 hg
  have h0 := h.c0; have h2 := h.c2; have z2 := h.z 2
  have g2 : (i : Int) ≤ (T.size : Int) := by omega
  have HS := hL
  clear hL hg1 hg2 hlt
  go_wp2_with fail
  go_region
  go_wp2_with fail
  have hA : Rd b rv T i true (((w.alloc (.cells #[.string ⟨#[]⟩, .int .i64 0] 187)).drewN n1).setCell ⟨b, 2, none⟩ (.bool true)) := Rd.setFail (w := (w.alloc (.cells #[.string ⟨#[]⟩, .int .i64 0] 187)).drewN n1) (h.alloc _)
  have hs : Sr b rv S (((w.alloc (.cells #[.string ⟨#[]⟩, .int .i64 0] 187)).drewN n1).setCell ⟨b, 2, none⟩ (.bool true)) := ((hS.alloc _).drewN n1).setCell hS.ne _
  have hne : w.heap.size ≠ b := by omega
  refine bodyPost_ret (v := plV (cut T.data.toList i i, 1)) ?_ rfl ?_
  · have e : bs (cut T.data.toList i i) = ByteArray.empty := by simp [cut, bs]; rfl
    simp [results, Tryz.results152, go_sem, plV, e]
  · rw [HS.out, hQ.out, List.append_nil]
    refine ⟨rfl, rv, whole_set_ne (whole_set_ne hA ⟨w.heap.size, 0, none⟩ hne _) ⟨w.heap.size, 1, none⟩ hne _, ?_, ?_⟩
    · exact Sr.setCell (p := ⟨w.heap.size, 1, none⟩) (Sr.setCell (p := ⟨w.heap.size, 0, none⟩) hs hro _) hro _
    · exact AsV.of ((((((Aside.refl b w).alloc _).drewN n1).setCell (Or.inl rfl) _).setCell (Or.inr (Nat.le_refl _)) _).setCell (Or.inr (Nat.le_refl _)) _).drew

theorem leaf_any {rv : Value} (b i d : Nat) (f : Bool) (T : ByteArray) (S : List Stp) (w : World) (h : Rd b rv T i f w) (hS : Sr b rv S w) (hl : S.length ≤ 3000) (hT : T.size ≤ 600) (hi : i ≤ T.size) (hd : d ≤ 4) (hc : pk T.data.toList (i, f) ≠ 40) :
    Calls Tryz.prog 152 #[.pointer (some ⟨b, 0, none⟩), .int .i64 (d : Int)] w (Lef rv b T S (leafQ T.data.toList (i, f)) (cut T.data.toList i (leafS T.data.toList (i, f)).1, 1) (leafS T.data.toList (i, f)) w) := by
  by_cases h1 : pk T.data.toList (i, f) = 115
  · exact factor_s b i d f T S w h hS hl hT hi hd h1
  by_cases h2 : pk T.data.toList (i, f) = 111
  · exact factor_o b i d f T S w h hS hl hT hi hd h2
  by_cases h3 : pk T.data.toList (i, f) = 97
  · exact factor_a b i d f T S w h hS hl hT hi hd h3
  by_cases h4 : pk T.data.toList (i, f) = 110
  · exact factor_n b i d f T S w h hS hl hT hi hd h4
  exact factor_d b i d f T S w h hS hl hT hi hd ⟨hc, h1, h2, h3, h4⟩

end Go.Proofs.YtanknpmojblmcaaGreatDoor
