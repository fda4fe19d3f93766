/-
  The reader's array, options and head.
-/
import Derived.Test.YtanknpmojblmcaaGreatDoorWant
import Derived.Test.YtanknpmojblmcaaGreatDoorSpec3
set_option linter.unusedSimpArgs false
set_option linter.unusedVariables false
namespace Go.Proofs.YtanknpmojblmcaaGreatDoor
open Go.RowKit

/-- The cells of a head. -/
def hvC (h : HV) (q : Value) : Array Value := #[.string (bs h.name), .int .i64 (h.nodes : Int), .int .i64 (h.time : Int), .bool h.arr, .int .i64 (h.lo : Int), .int .i64 (h.hi : Int), .string (bs h.after), q, .int .i64 (h.nameAt : Int), .int .i64 (h.nodesAt : Int), .int .i64 (h.timeAt : Int), .int .i64 (h.arrayAt : Int)]
def hvO (h : HV) (q : Value) : Obj := .cells (hvC h q) 64 (0, 0)
def Hd (c : Nat) (h : HV) (q : Value) (w : World) : Prop := w.heap[c]? = some (hvO h q)
theorem Hd.z {c : Nat} {h : HV} {q : Value} {w : World} (hh : Hd c h q w) (k : Nat) : w.frozen? ⟨c, k, none⟩ = false := whole_frozen hh k
theorem Hd.c {c : Nat} {h : HV} {q : Value} {w : World} (hh : Hd c h q w) (k : Nat) : w.cell? ⟨c, k, none⟩ = (hvC h q)[k]? := whole_cell hh k
theorem Hd.kept {b c : Nat} {h : HV} {q : Value} {w w' : World} (hh : Hd c h q w) (k : Aside b w w') (hc : c ≠ b) : Hd c h q w' := (k.block c (whole_lt hh) hc).trans hh
theorem Hd.set {c : Nat} {h h' : HV} {q q' : Value} {w : World} (hh : Hd c h q w) (k : Nat) (v : Value) (e : (hvC h q).setIfInBounds k v = hvC h' q') : Hd c h' q' (w.setCell ⟨c, k, none⟩ v) := by
  unfold Hd hvO; rw [← e]; exact whole_set hh k v
theorem Hd.lt {c : Nat} {h : HV} {q : Value} {w : World} (hh : Hd c h q w) : c < w.heap.size := whole_lt hh
theorem Hd.alloc {c : Nat} {h : HV} {q : Value} {w : World} (hh : Hd c h q w) (o : Obj) : Hd c h q (w.alloc o) := whole_alloc hh o

set_option maxHeartbeats 1000000 in
theorem array_any {rv q : Value} (b c i : Nat) (f : Bool) (h : HV) (T : ByteArray) (w0 w : World) (hr : Rd b rv T i f w) (hh : Hd c h q w) (hcb : c ≠ b) (ha : Aside b w0 w) (h0 : w0.heap.size ≤ c) (hT : T.size ≤ 600) :
    Calls Tryz.prog 131 #[.pointer (some ⟨b, 0, none⟩), .pointer (some ⟨c, 0, none⟩)] w fun e w' => e = .returned (.tuple #[]) ∧ Rd b rv T (arrH T.data.toList h (i, f)).2.1 (arrH T.data.toList h (i, f)).2.2 w' ∧ Hd c (arrH T.data.toList h (i, f)).1 q w' ∧ Aside b w0 w' := by
  have r1 := hr.c1
  have k3 := hh.c 3; have k4 := hh.c 4; have k5 := hh.c 5; have k11 := hh.c 11
  have z3 := hh.z 3; have z4 := hh.z 4; have z5 := hh.z 5; have z11 := hh.z 11
  simp [hvC] at k3 k4 k5 k11
  go_enter Tryz.func131, Tryz.ntmps131
  go_wp2_with fail
  have q1 : Rd b rv T i f ((w.setCell ⟨c, 3, none⟩ (.bool true)).setCell ⟨c, 11, none⟩ (.int .i64 (i : Int))) := whole_set_ne (whole_set_ne hr ⟨c, 3, none⟩ hcb _) ⟨c, 11, none⟩ hcb _
  have q2 : Hd c { h with arr := true, arrayAt := i } q ((w.setCell ⟨c, 3, none⟩ (.bool true)).setCell ⟨c, 11, none⟩ (.int .i64 (i : Int))) :=
    Hd.set (h := { h with arr := true }) (hh.set 3 _ rfl) 11 _ rfl
  have q3 : Aside b w0 ((w.setCell ⟨c, 3, none⟩ (.bool true)).setCell ⟨c, 11, none⟩ (.int .i64 (i : Int))) := (ha.setCell (Or.inr h0) _).setCell (Or.inr h0) _
  generalize (w.setCell ⟨c, 3, none⟩ (.bool true)).setCell ⟨c, 11, none⟩ (.int .i64 (i : Int)) = w1 at *
  clear r1 k3 k4 k5 k11 z3 z4 z5 z11 hr hh ha
  refine (rnumber_any b i f T _ q1 hT).mono ?_
  rintro e w2 ⟨rfl, hr2, ha2⟩
  have HA : Hid (arrH T.data.toList h (i, f) = ({ h with arr := true, arrayAt := i, lo := numV T.data.toList (i, f), hi := numV T.data.toList (wd T.data.toList [45] (numS T.data.toList (i, f))) }, numS T.data.toList (wd T.data.toList [45] (numS T.data.toList (i, f))))) := rfl
  generalize numS T.data.toList (i, f) = s2 at *
  generalize numV T.data.toList (i, f) = v2 at *
  obtain ⟨i2, f2⟩ := s2
  have hh2 := q2.kept ha2 hcb
  have k4 := hh2.c 4; have z4 := hh2.z 4
  simp [hvC] at k4
  go_wp2_with fail
  have q4 : Rd b rv T i2 f2 (w2.setCell ⟨c, 4, none⟩ (.int .i64 (v2 : Int))) := whole_set_ne hr2 ⟨c, 4, none⟩ hcb _
  have q5 : Hd c { h with arr := true, arrayAt := i, lo := v2 } q (w2.setCell ⟨c, 4, none⟩ (.int .i64 (v2 : Int))) := hh2.set 4 _ rfl
  have q6 : Aside b w0 (w2.setCell ⟨c, 4, none⟩ (.int .i64 (v2 : Int))) := (q3.trans ha2).setCell (Or.inr h0) _
  generalize w2.setCell ⟨c, 4, none⟩ (.int .i64 (v2 : Int)) = w3 at *
  refine (word_any b i2 f2 T ⟨#[45]⟩ _ q4 hT (by decide)).mono ?_
  rintro e w4 ⟨rfl, hr4, ha4⟩
  have hr4 : Rd b rv T (wd T.data.toList [45] (i2, f2)).1 (wd T.data.toList [45] (i2, f2)).2 w4 := hr4
  have hh4 := q5.kept ha4 hcb
  generalize wd T.data.toList [45] (i2, f2) = s4 at *
  obtain ⟨i4, f4⟩ := s4
  go_wp2_with fail
  refine (rnumber_any b i4 f4 T _ hr4 hT).mono ?_
  rintro e w5 ⟨rfl, hr5, ha5⟩
  have hh5 := hh4.kept ha5 hcb
  generalize numS T.data.toList (i4, f4) = s5 at *
  generalize numV T.data.toList (i4, f4) = v5 at *
  obtain ⟨i5, f5⟩ := s5
  have k5 := hh5.c 5; have z5 := hh5.z 5
  simp [hvC] at k5
  go_wp2_with fail
  go_end0
  rw [HA.out]
  exact ⟨rfl, whole_set_ne hr5 ⟨c, 5, none⟩ hcb _, hh5.set 5 _ rfl, ((q6.trans ha4).trans ha5).setCell (Or.inr h0) _⟩

set_option maxHeartbeats 1000000 in
theorem options_any {rv q : Value} (b c i : Nat) (f : Bool) (h : HV) (T : ByteArray) (w0 w : World) (hr : Rd b rv T i f w) (hh : Hd c h q w) (hq : Sr b q h.want w0) (hcb : c ≠ b) (ha : Aside b w0 w) (h0 : w0.heap.size ≤ c) (hT : T.size ≤ 600) (hi : i ≤ T.size) :
    Calls Tryz.prog 114 #[.pointer (some ⟨b, 0, none⟩), .pointer (some ⟨c, 0, none⟩)] w fun e w' => e = .returned (.tuple #[]) ∧ ∃ rv' q', Rd b rv' T (optH T.data.toList h (i, f)).2.1 (optH T.data.toList h (i, f)).2.2 w' ∧ Hd c (optH T.data.toList h (i, f)).1 q' w' ∧ Sr b q' (optH T.data.toList h (i, f)).1.want w' ∧ Aside b w0 w' := by
  have hlen : T.data.toList.length = T.size := by simp
  go_enter Tryz.func114, Tryz.ntmps114
  go_wp2_with fail
  refine (skip_any b i 32 f T _ hr hT).mono ?_
  rintro e w1 ⟨rfl, hr1, ha1⟩
  have hh1 := hh.kept ha1 hcb
  have ha1 := ha.trans ha1
  cases hs : sk T.data.toList 32 (i, f) with
  | false =>
    rw [skS_no hs] at hr1
    have HO : Hid (optH T.data.toList h (i, f) = (h, (i, f))) := by show _ = _; simp [optH, hs]
    clear hs
    go_wp2_with fail
    refine bodyPost_ret (results_none rfl _ _ _) rfl ?_
    rw [HO.out]
    exact ⟨rfl, rv, q, hr1, hh1, hq.kept ha1, ha1⟩
  | true =>
    rw [skS_yes hs] at hr1
    have g1 := (sk_goes hs).2
    have HO : Hid (optH T.data.toList h (i, f) = if pk T.data.toList (wd T.data.toList [97] (i + 1, f)) = 114 then
      if sk T.data.toList 32 (arrH T.data.toList h (wd T.data.toList [114, 114, 97, 121, 61] (wd T.data.toList [97] (i + 1, f)))).2 then
        aftH T.data.toList (arrH T.data.toList h (wd T.data.toList [114, 114, 97, 121, 61] (wd T.data.toList [97] (i + 1, f)))).1 (wd T.data.toList [97] ((arrH T.data.toList h (wd T.data.toList [114, 114, 97, 121, 61] (wd T.data.toList [97] (i + 1, f)))).2.1 + 1, (arrH T.data.toList h (wd T.data.toList [114, 114, 97, 121, 61] (wd T.data.toList [97] (i + 1, f)))).2.2))
      else arrH T.data.toList h (wd T.data.toList [114, 114, 97, 121, 61] (wd T.data.toList [97] (i + 1, f)))
    else aftH T.data.toList h (wd T.data.toList [97] (i + 1, f))) := by show _ = _; simp [optH, hs]
    clear hs
    simp only at hr1 g1
    go_wp2_with fail
    refine (word_any b (i + 1) f T ⟨#[97]⟩ _ hr1 hT (by decide)).mono ?_
    rintro e w2 ⟨rfl, hr2, ha2⟩
    have hr2 : Rd b rv T (wd T.data.toList [97] (i + 1, f)).1 (wd T.data.toList [97] (i + 1, f)).2 w2 := hr2
    have hh2 := hh1.kept ha2 hcb
    have ha2 := ha1.trans ha2
    have g2 := (wd_goes T.data.toList [97] (i + 1, f) g1).2
    rw [hlen] at g2
    generalize wd T.data.toList [97] (i + 1, f) = s2 at *
    obtain ⟨i2, f2⟩ := s2
    simp only at hr2 g2
    clear hr1 hh1 ha1 g1
    go_wp2_with fail
    refine (peek_any b i2 f2 T _ hr2).mono ?_
    rintro e w3 ⟨rfl, n3, hw3⟩
    have hr3 : Rd b rv T i2 f2 w3 := by rw [hw3]; exact hr2.drewN n3
    have hh3 : Hd c h q w3 := by rw [hw3]; exact hh2
    have ha3 : Aside b w0 w3 := by rw [hw3]; exact ha2.drewN n3
    clear hw3 hr2 hh2 ha2
    by_cases h114 : pk T.data.toList (i2, f2) = 114
    · have HO2 := HO.out
      rw [if_pos h114] at HO2
      replace HO := (show Hid _ from HO2)
      clear HO2
      rw [h114]
      clear h114
      go_wp2_with fail
      refine (word_any b i2 f2 T ⟨#[114, 114, 97, 121, 61]⟩ _ hr3 hT (by decide)).mono ?_
      rintro e w4 ⟨rfl, hr4, ha4⟩
      have hr4 : Rd b rv T (wd T.data.toList [114, 114, 97, 121, 61] (i2, f2)).1 (wd T.data.toList [114, 114, 97, 121, 61] (i2, f2)).2 w4 := hr4
      have hh4 := hh3.kept ha4 hcb
      have ha4 := ha3.trans ha4
      have g4 := (wd_goes T.data.toList [114, 114, 97, 121, 61] (i2, f2) (by rw [hlen]; exact g2)).2
      generalize wd T.data.toList [114, 114, 97, 121, 61] (i2, f2) = s4 at *
      obtain ⟨i4, f4⟩ := s4
      simp only at hr4 g4
      clear hr3 hh3 ha3
      go_wp2_with fail
      refine (array_any b c i4 f4 h T w0 _ hr4 hh4 hcb ha4 h0 hT).mono ?_
      rintro e w5 ⟨rfl, hr5, hh5, ha5⟩
      have g5 := (arrH_goes T.data.toList h (i4, f4) g4).2
      rw [hlen] at g5
      have hq5 : (arrH T.data.toList h (i4, f4)).1.want = h.want := rfl
      generalize arrH T.data.toList h (i4, f4) = s5 at *
      obtain ⟨h5, i5, f5⟩ := s5
      simp only at hr5 hh5 g5 HO hq5
      clear hr4 hh4 ha4 g4
      go_wp2_with fail
      refine (skip_any b i5 32 f5 T _ hr5 hT).mono ?_
      rintro e w6 ⟨rfl, hr6, ha6⟩
      have hh6 := hh5.kept ha6 hcb
      have ha6 := ha5.trans ha6
      cases hs : sk T.data.toList 32 (i5, f5) with
      | false =>
        rw [skS_no hs] at hr6
        have HO2 : Hid (optH T.data.toList h (i, f) = (h5, (i5, f5))) := by show _ = _; rw [HO.out, hs]; rfl
        clear hs
        go_wp2_with fail
        refine bodyPost_ret (results_none rfl _ _ _) rfl ?_
        rw [HO2.out]
        exact ⟨rfl, rv, q, hr6, hh6, (by rw [hq5]; exact hq.kept ha6), ha6⟩
      | true =>
        rw [skS_yes hs] at hr6
        have g6 := (sk_goes hs).2
        have HO2 : Hid (optH T.data.toList h (i, f) = aftH T.data.toList h5 (wd T.data.toList [97] (i5 + 1, f5))) := by show _ = _; rw [HO.out, hs]; rfl
        clear hs
        simp only at hr6 g6
        go_wp2_with fail
        refine (word_any b (i5 + 1) f5 T ⟨#[97]⟩ _ hr6 hT (by decide)).mono ?_
        rintro e w7 ⟨rfl, hr7, ha7⟩
        have hr7 : Rd b rv T (wd T.data.toList [97] (i5 + 1, f5)).1 (wd T.data.toList [97] (i5 + 1, f5)).2 w7 := hr7
        have hh7 := hh6.kept ha7 hcb
        have ha7 := ha6.trans ha7
        have g7 := (wd_goes T.data.toList [97] (i5 + 1, f5) g6).2
        rw [hlen] at g7
        generalize wd T.data.toList [97] (i5 + 1, f5) = s7 at *
        obtain ⟨i7, f7⟩ := s7
        simp only at hr7 g7
        replace HO := HO2
        clear HO2 hr6 hh6 ha6 g6
        go_wp2_with fail
        refine (word_any b i7 f7 T ⟨#[102, 116, 101, 114, 61]⟩ _ hr7 hT (by decide)).mono ?_
        rintro e x1 ⟨rfl, y1, ya1⟩
        have y1 : Rd b rv T (wd T.data.toList [102, 116, 101, 114, 61] (i7, f7)).1 (wd T.data.toList [102, 116, 101, 114, 61] (i7, f7)).2 x1 := y1
        have yh1 := hh7.kept ya1 hcb
        have yg := (wd_goes T.data.toList [102, 116, 101, 114, 61] (i7, f7) (by rw [hlen]; exact g7)).2
        rw [hlen] at yg
        have HF : Hid (aftH T.data.toList h5 (i7, f7) = ({ h5 with after := (wantF T.data.toList (fac T.data.toList 4) (wd T.data.toList [102, 116, 101, 114, 61] (i7, f7))).1.1, want := wantQ T.data.toList (fac T.data.toList 4) (facQ T.data.toList 4) (wd T.data.toList [102, 116, 101, 114, 61] (i7, f7)) }, (wantF T.data.toList (fac T.data.toList 4) (wd T.data.toList [102, 116, 101, 114, 61] (i7, f7))).2)) := rfl
        generalize wd T.data.toList [102, 116, 101, 114, 61] (i7, f7) = t1 at *
        obtain ⟨j1, g1⟩ := t1
        have y3 := y1.c3; have yz := y1.z 3
        go_wp2_with fail
        replace y1 := y1.setV (.slice none 0 0)
        replace yh1 : Hd c h5 q (x1.setCell ⟨b, 3, none⟩ (.slice none 0 0)) := whole_set_ne yh1 ⟨b, 3, none⟩ (Ne.symm hcb) _
        replace ya1 : Aside b w0 (x1.setCell ⟨b, 3, none⟩ (.slice none 0 0)) := (ha7.trans ya1).setCell (Or.inl rfl) _
        clear y3 yz
        generalize x1.setCell ⟨b, 3, none⟩ (.slice none 0 0) = x1 at *
        refine (want_any _ b j1 g1 T [] _ y1 (Sr.nil _ _) (Nat.zero_le _) hT yg).mono ?_
        rintro e x2 ⟨he, rv2, y2, ys2, ya2⟩
        replace ya2 := ya2.aside
        rw [List.nil_append] at ys2
        simp only at he y2 ys2
        have yh2 := yh1.kept ya2 hcb
        generalize wantQ T.data.toList (fac T.data.toList 4) (facQ T.data.toList 4) (j1, g1) = Q2 at *
        generalize wantF T.data.toList (fac T.data.toList 4) (j1, g1) = t2 at *
        obtain ⟨p2, j2, g2⟩ := t2
        simp only at he y2 HF
        have hP : plV p2 = .agg #[.string (bs p2.1), .int .i64 (p2.2 : Int)] := rfl
        rw [hP] at he
        clear hP
        subst he
        have k6 := yh2.c 6; have z6 := yh2.z 6
        have k7 := yh2.c 7; have z7 := yh2.z 7
        have y3 := y2.c3
        simp [hvC] at k6 k7
        have hlt2 := yh2.lt
        have hne2 : x2.heap.size ≠ c := by omega
        have hne3 : x2.heap.size ≠ b := by have := y2.lt; omega
        have hne4 : b < x2.heap.size := y2.lt
        have hqc := ys2.other yh2 (by decide)
        obtain ⟨pa2, pc2, rfl⟩ := ys2.form
        go_wp2_with fail
        go_end0
        rw [HO.out, HF.out]
        refine ⟨rfl, .slice pa2 Q2.length pc2, .slice pa2 Q2.length pc2, ?_, ?_, ?_, ?_⟩
        · exact whole_alloc (whole_set_ne (whole_set_ne y2 ⟨c, 6, none⟩ hcb _) ⟨c, 7, none⟩ hcb _) _
        · exact Hd.alloc (Hd.set (h' := { h5 with after := p2.1, want := Q2 }) (q' := .slice pa2 Q2.length pc2) (Hd.set (h' := { h5 with after := p2.1 }) (q' := q) yh2 6 _ rfl) 7 _ rfl) _
        · exact (Sr.setCell (p := ⟨c, 7, none⟩) (Sr.setCell (p := ⟨c, 6, none⟩) ys2 hqc _) hqc _).alloc _
        · exact (((ya1.trans ya2).setCell (Or.inr h0) _).setCell (Or.inr h0) _).alloc _
    · have HO2 := HO.out
      rw [if_neg h114] at HO2
      replace HO := (show Hid _ from HO2)
      clear HO2
      have hpl := pk_lt T.data.toList (i2, f2)
      generalize pk T.data.toList (i2, f2) = cc at *
      have hb1 : ((cc : Int) == 114) = false := by rw [beq_eq_false_iff_ne]; omega
      clear h114
      go_wp2_with fail
      refine (word_any b i2 f2 T ⟨#[102, 116, 101, 114, 61]⟩ _ hr3 hT (by decide)).mono ?_
      rintro e x1 ⟨rfl, y1, ya1⟩
      have y1 : Rd b rv T (wd T.data.toList [102, 116, 101, 114, 61] (i2, f2)).1 (wd T.data.toList [102, 116, 101, 114, 61] (i2, f2)).2 x1 := y1
      have yh1 := hh3.kept ya1 hcb
      have yg := (wd_goes T.data.toList [102, 116, 101, 114, 61] (i2, f2) (by rw [hlen]; exact g2)).2
      rw [hlen] at yg
      have HF : Hid (aftH T.data.toList h (i2, f2) = ({ h with after := (wantF T.data.toList (fac T.data.toList 4) (wd T.data.toList [102, 116, 101, 114, 61] (i2, f2))).1.1, want := wantQ T.data.toList (fac T.data.toList 4) (facQ T.data.toList 4) (wd T.data.toList [102, 116, 101, 114, 61] (i2, f2)) }, (wantF T.data.toList (fac T.data.toList 4) (wd T.data.toList [102, 116, 101, 114, 61] (i2, f2))).2)) := rfl
      generalize wd T.data.toList [102, 116, 101, 114, 61] (i2, f2) = t1 at *
      obtain ⟨j1, g1⟩ := t1
      have y3 := y1.c3; have yz := y1.z 3
      go_wp2_with fail
      replace y1 := y1.setV (.slice none 0 0)
      replace yh1 : Hd c h q (x1.setCell ⟨b, 3, none⟩ (.slice none 0 0)) := whole_set_ne yh1 ⟨b, 3, none⟩ (Ne.symm hcb) _
      replace ya1 : Aside b w0 (x1.setCell ⟨b, 3, none⟩ (.slice none 0 0)) := (ha3.trans ya1).setCell (Or.inl rfl) _
      clear y3 yz
      generalize x1.setCell ⟨b, 3, none⟩ (.slice none 0 0) = x1 at *
      refine (want_any _ b j1 g1 T [] _ y1 (Sr.nil _ _) (Nat.zero_le _) hT yg).mono ?_
      rintro e x2 ⟨he, rv2, y2, ys2, ya2⟩
      replace ya2 := ya2.aside
      rw [List.nil_append] at ys2
      simp only at he y2 ys2
      have yh2 := yh1.kept ya2 hcb
      generalize wantQ T.data.toList (fac T.data.toList 4) (facQ T.data.toList 4) (j1, g1) = Q2 at *
      generalize wantF T.data.toList (fac T.data.toList 4) (j1, g1) = t2 at *
      obtain ⟨p2, j2, g2⟩ := t2
      simp only at he y2 HF
      have hP : plV p2 = .agg #[.string (bs p2.1), .int .i64 (p2.2 : Int)] := rfl
      rw [hP] at he
      clear hP
      subst he
      have k6 := yh2.c 6; have z6 := yh2.z 6
      have k7 := yh2.c 7; have z7 := yh2.z 7
      have y3 := y2.c3
      simp [hvC] at k6 k7
      have hlt2 := yh2.lt
      have hne2 : x2.heap.size ≠ c := by omega
      have hne3 : x2.heap.size ≠ b := by have := y2.lt; omega
      have hne4 : b < x2.heap.size := y2.lt
      have hqc := ys2.other yh2 (by decide)
      obtain ⟨pa2, pc2, rfl⟩ := ys2.form
      go_wp2_with fail
      go_end0
      rw [HO.out, HF.out]
      refine ⟨rfl, .slice pa2 Q2.length pc2, .slice pa2 Q2.length pc2, ?_, ?_, ?_, ?_⟩
      · exact whole_alloc (whole_set_ne (whole_set_ne y2 ⟨c, 6, none⟩ hcb _) ⟨c, 7, none⟩ hcb _) _
      · exact Hd.alloc (Hd.set (h' := { h with after := p2.1, want := Q2 }) (q' := .slice pa2 Q2.length pc2) (Hd.set (h' := { h with after := p2.1 }) (q' := q) yh2 6 _ rfl) 7 _ rfl) _
      · exact (Sr.setCell (p := ⟨c, 7, none⟩) (Sr.setCell (p := ⟨c, 6, none⟩) ys2 hqc _) hqc _).alloc _
      · exact (((ya1.trans ya2).setCell (Or.inr h0) _).setCell (Or.inr h0) _).alloc _

end Go.Proofs.YtanknpmojblmcaaGreatDoor
