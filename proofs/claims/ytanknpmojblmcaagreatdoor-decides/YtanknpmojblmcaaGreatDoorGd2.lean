/-
  WmE WmF WmG, put together.
-/
import Derived.Test.YtanknpmojblmcaaGreatDoorGd1
import Derived.Test.YtanknpmojblmcaaGreatDoorGb2
/-
  A world's walk: among; tick, finish, cancel.
-/
set_option linter.unusedSimpArgs false
set_option linter.unusedVariables false
namespace Go.Proofs.YtanknpmojblmcaaGreatDoor
open Go.RowKit

/-- A slice of statuses. -/
def Sts (v : Value) (js : List PJ) (w : World) : Prop :=
  (v = .slice none 0 0 ∧ js = []) ∨ ∃ g cap, v = .slice (some ⟨g, 0, none⟩) js.length cap ∧ js.length ≤ cap ∧ g < w.heap.size ∧ ∀ k, k < js.length → ∀ i, i < 5 → w.cell? ⟨g, k * 5 + i, none⟩ = (stC (js.getD k pj0))[i]?
theorem flatSt_get : ∀ (js : List PJ) (k : Nat), k < js.length → ∀ i, i < 5 → (flatSt js)[k * 5 + i]? = (stC (js.getD k pj0))[i]? := by
  intro js
  induction js with
  | nil => intro k hk; simp at hk
  | cons j r ih =>
    intro k hk i hi
    have e : flatSt (j :: r) = stC j ++ flatSt r := by simp [flatSt]
    have hl : (stC j).length = 5 := rfl
    rw [e]
    cases k with
    | zero => rw [List.getElem?_append_left (by omega)]; simp
    | succ k =>
      rw [List.getElem?_append_right (by omega), hl, show (k + 1) * 5 + i - 5 = k * 5 + i from by omega]
      have := ih k (by simpa using hk) i hi
      simpa using this
theorem Sts.of {w : World} {base : Nat} {v : Value} {js : List PJ} (h : w.ownsRow base 82 5 v js.length (flatSt js)) : Sts v js w := by
  rcases h.2 with ⟨hv, hn⟩ | ⟨g, cap, cur, hv, h1, h2, h3, h4, h5, h6⟩
  · exact Or.inl ⟨hv, List.eq_nil_of_length_eq_zero hn⟩
  · right
    subst hv
    refine ⟨g, cap, rfl, h3, whole_lt h2, ?_⟩
    intro k hk i hi
    rw [h.cellAt (k * 5 + i) (by omega)]
    exact flatSt_get js k hk i hi
theorem Sts.form {w : World} {v : Value} {js : List PJ} (h : Sts v js w) : ∃ a c, v = .slice a js.length c := by
  rcases h with ⟨rfl, rfl⟩ | ⟨g, cap, rfl, _⟩
  · exact ⟨_, _, rfl⟩
  · exact ⟨_, _, rfl⟩
theorem amgN_more {held : Bool} {js : List PJ} {k i n : Nat} (h : amgN held js k n = some i) : ∀ m, n ≤ m → amgN held js k m = some i := by
  intro m hm
  induction hm with
  | refl => exact h
  | step _ ih => unfold amgN; rw [ih]
theorem amgC_le (held : Bool) (js : List PJ) : ∀ n, amgC held js n ≤ n := by
  intro n
  induction n with
  | zero => exact Nat.le_refl _
  | succ n ih => unfold amgC; split <;> omega
set_option maxRecDepth 100000 in
set_option maxHeartbeats 4000000 in
theorem wAmong (lv : Value) (js : List PJ) (a : Int) (held : Bool) (w : World) (hS : Sts lv js w) (hl : js.length ≤ 24) (h1 : -9223372036854775808 ≤ a) (h2 : a ≤ 9223372036854775807) :
    Calls Tryz.prog 60 #[lv, .int .i64 a, .bool held] w fun e w' => e = .returned (.int .i64 (latI (amgF held js a))) ∧ w' = w := by
  obtain ⟨la, lc, rfl⟩ := hS.form
  have HS : Hid (Sts (.slice la js.length lc) js w) := hS
  clear hS
  have CELL : ∀ k, k < js.length → ∃ g, la = some ⟨g, 0, none⟩ ∧ js.length ≤ lc ∧ w.cell? ⟨g, k * 5, none⟩ = some (.int .i64 ((js.getD k pj0).st : Int)) := by
    intro k hk
    rcases HS.out with ⟨_, hn⟩ | ⟨g, cap, hv, hc, hg, hcell⟩
    · rw [hn] at hk; simp at hk
    · injection hv with e1 e2 e3
      subst e3
      exact ⟨g, e1, hc, by have := hcell k hk 0 (by omega); simpa [stC] using this⟩
  have HCELL : Hid _ := CELL
  clear CELL
  obtain ⟨T, hT⟩ : ∃ T, T = amgC held js js.length := ⟨_, rfl⟩
  have hT24 : T ≤ 24 := by rw [hT]; have := amgC_le held js js.length; omega
  have HT : Hid (T = amgC held js js.length) := hT
  clear hT
  have HF : Hid (amgF held js a = if T = 0 then none else amgN held js (pikD a % T) js.length) := by show _ = _; unfold amgF; rw [← HT.out]
  go_enter Tryz.func60, Tryz.ntmps60
  go_wp2_with fail
  go_loopg [7, 8] (js.length + 1) (fun r x z wr => ∃ (k : Nat), k ≤ js.length ∧ r = js.length - k + 1 ∧ z = .int .i64 (k : Int) ∧ x = .int .i64 ((amgC held js k : Nat) : Int) ∧ wr = w)
  case atStart => exact ⟨0, Nat.zero_le _, rfl, rfl, rfl, rfl⟩
  case round =>
    obtain ⟨k, hk, rfl, rfl, rfl, rfl⟩ := hrel
    by_cases hlt : k < js.length
    · have hlt' : (k : Int) < (js.length : Int) := by omega
      obtain ⟨g, rfl, hc, hcell⟩ := HCELL.out k hlt
      have hcl := amgC_le held js k
      have HC1 : Hid (amgC held js (k + 1) = amgC held js k + (if amgB held (js.getD k pj0) = true then 1 else 0)) := rfl
      have HAB : Hid (amgB held (js.getD k pj0) = (decide ((js.getD k pj0).st = 2) || (held && decide ((js.getD k pj0).st < 3)))) := rfl
      generalize (js.getD k pj0).st = st at *
      generalize amgB held (js.getD k pj0) = ab at *
      generalize amgC held js k = ck at *
      have ckI : (ck : Int) ≤ 24 := by omega
      by_cases hs2 : st = 2
      · have HX : Hid (amgC held js (k + 1) = ck + 1) := by show _ = _; rw [HC1.out, HAB.out, hs2]; simp
        clear HC1 HAB
        subst hs2
        go_wp2_with fail
        go_roundg (js.length - (k + 1) + 1)
        case measure => omega
        case rel => exact ⟨k + 1, by omega, rfl, by go_num, by rw [HX.out]; go_num, rfl⟩
      · have hs2' : ((st : Int) == 2) = false := by rw [beq_eq_false_iff_ne]; omega
        cases held with
        | false =>
          have HX : Hid (amgC false js (k + 1) = ck) := by show _ = _; rw [HC1.out, HAB.out]; simp [hs2]
          clear HC1 HAB
          go_wp2_with fail
          go_roundg (js.length - (k + 1) + 1)
          case measure => omega
          case rel => exact ⟨k + 1, by omega, rfl, by go_num, by rw [HX.out], rfl⟩
        | true =>
          by_cases hs3 : st < 3
          · have hs3' : (st : Int) < 3 := by omega
            have HX : Hid (amgC true js (k + 1) = ck + 1) := by show _ = _; rw [HC1.out, HAB.out]; simp [hs3]
            clear HC1 HAB
            go_wp2_with fail
            go_roundg (js.length - (k + 1) + 1)
            case measure => omega
            case rel => exact ⟨k + 1, by omega, rfl, by go_num, by rw [HX.out]; go_num, rfl⟩
          · have hs3' : ¬ (st : Int) < 3 := by omega
            have HX : Hid (amgC true js (k + 1) = ck) := by show _ = _; rw [HC1.out, HAB.out]; simp [hs2, hs3]
            clear HC1 HAB
            go_wp2_with fail
            go_roundg (js.length - (k + 1) + 1)
            case measure => omega
            case rel => exact ⟨k + 1, by omega, rfl, by go_num, by rw [HX.out], rfl⟩
    · have hlt' : decide ((k : Int) < (js.length : Int)) = false := by simp; omega
      have hke : k = js.length := by omega
      have HK : Hid (amgC held js k = T) := by show _ = _; rw [HT.out, hke]
      rw [HK.out]
      clear HK
      by_cases h0 : T = 0
      · have HF2 : Hid (amgF held js a = none) := HF.out.trans (if_pos h0)
        clear HF
        subst h0
        go_wp2_with fail
        go_ret
        exact ⟨by rw [HF2.out]; rfl, rfl⟩
      · have h0' : ((T : Int) == 0) = false := by rw [beq_eq_false_iff_ne]; omega
        have HF2 : Hid (amgF held js a = amgN held js (pikD a % T) js.length) := HF.out.trans (if_neg h0)
        clear HF
        go_wp2_with fail
        refine (pkPick a T h1 h2 (by omega) (by omega) _).mono ?_
        rintro e w1 ⟨he, rfl⟩
        obtain ⟨q, hq⟩ : ∃ q, q = pikD a % T := ⟨_, rfl⟩
        have hqT : q < T := by rw [hq]; exact Nat.mod_lt _ (by omega)
        rw [← hq] at he HF2
        subst he
        clear hq
        go_wp2_with fail
        go_loopg [9, 10] (js.length + 1) (fun r x z wr => ∃ (i : Nat), i ≤ js.length ∧ r = js.length - i + 1 ∧ z = .int .i64 (i : Int) ∧ x = .int .i64 ((q : Int) - ((amgC held js i : Nat) : Int)) ∧ Hid (amgN held js q i = none) ∧ wr = w1)
        case atStart => exact ⟨0, Nat.zero_le _, rfl, rfl, by simp [amgC], rfl, rfl⟩
        case round =>
          obtain ⟨i, hi, rfl, rfl, rfl, HNO, rfl⟩ := hrel
          have hno := amgN_none _ HNO.out
          by_cases hlt2 : i < js.length
          · have hlt2' : (i : Int) < (js.length : Int) := by omega
            obtain ⟨g, rfl, hc, hcell⟩ := HCELL.out i hlt2
            have HC1 : Hid (amgC held js (i + 1) = amgC held js i + (if amgB held (js.getD i pj0) = true then 1 else 0)) := rfl
            have HN1 : Hid (amgN held js q (i + 1) = if amgB held (js.getD i pj0) = true ∧ amgC held js i = q then some i else none) := by
              show _ = _
              rw [amgN, HNO.out]
            have HAB : Hid (amgB held (js.getD i pj0) = (decide ((js.getD i pj0).st = 2) || (held && decide ((js.getD i pj0).st < 3)))) := rfl
            have hcl := amgC_le held js i
            generalize (js.getD i pj0).st = st at *
            generalize amgB held (js.getD i pj0) = ab at *
            generalize amgC held js i = ck at *
            have ckI : (ck : Int) ≤ 24 := by omega
            have hckq : (ck : Int) ≤ (q : Int) := by omega
            cases hab : ab with
            | false =>
              have HX : Hid (amgC held js (i + 1) = ck) := by show _ = _; rw [HC1.out, hab]; simp
              have HY : Hid (amgN held js q (i + 1) = none) := by show _ = _; rw [HN1.out, hab]; simp
              have hb := HAB.out
              rw [hab] at hb
              clear HC1 HN1 HAB
              have hs2 : ¬ st = 2 := by intro e; rw [e] at hb; simp at hb
              have hs2' : ((st : Int) == 2) = false := by rw [beq_eq_false_iff_ne]; omega
              cases held with
              | false =>
                clear hb
                go_wp2_with fail
                go_roundg (js.length - (i + 1) + 1)
                case measure => omega
                case rel => exact ⟨i + 1, by omega, rfl, by go_num, by rw [HX.out], HY, rfl⟩
              | true =>
                have hs3 : ¬ st < 3 := by intro e; simp [e] at hb
                have hs3' : ¬ (st : Int) < 3 := by omega
                clear hb
                go_wp2_with fail
                go_roundg (js.length - (i + 1) + 1)
                case measure => omega
                case rel => exact ⟨i + 1, by omega, rfl, by go_num, by rw [HX.out], HY, rfl⟩
            | true =>
              have HX : Hid (amgC held js (i + 1) = ck + 1) := by show _ = _; rw [HC1.out, hab]; simp
              have hb := HAB.out
              rw [hab] at hb
              have HN2 : Hid (amgN held js q (i + 1) = if ck = q then some i else none) := by
                show _ = _
                rw [HN1.out, hab]
                by_cases e : ck = q
                · rw [if_pos ⟨rfl, e⟩, if_pos e]
                · rw [if_neg (fun z => e z.2), if_neg e]
              clear HC1 HN1 HAB
              have hz : ((q : Int) - (ck : Int) == 0) = decide (ck = q) := by
                by_cases e : ck = q
                · subst e; simp
                · rw [decide_eq_false e, beq_eq_false_iff_ne]; omega
              have hway : st = 2 ∨ (st ≠ 2 ∧ held = true ∧ st < 3) := by
                by_cases e : st = 2
                · exact Or.inl e
                · right
                  simp [e] at hb
                  exact ⟨e, hb.1, hb.2⟩
              clear hb
              by_cases hcq : ck = q
              · have HR : Hid (amgF held js a = some i) := by
                  show _ = _
                  rw [HF2.out]
                  exact amgN_more (by rw [HN2.out, if_pos hcq]) _ (by omega)
                have hz2 : ((q : Int) - (ck : Int) == 0) = true := by rw [hz, decide_eq_true hcq]
                clear hz HN2
                rcases hway with rfl | ⟨e1, rfl, e3⟩
                · go_wp2_with fail
                  go_ret
                  exact ⟨by rw [HR.out]; rfl, rfl⟩
                · have hs2' : ((st : Int) == 2) = false := by rw [beq_eq_false_iff_ne]; omega
                  have hs3' : (st : Int) < 3 := by omega
                  go_wp2_with fail
                  go_ret
                  exact ⟨by rw [HR.out]; rfl, rfl⟩
              · have HY : Hid (amgN held js q (i + 1) = none) := by show _ = _; rw [HN2.out, if_neg hcq]
                have hz2 : ((q : Int) - (ck : Int) == 0) = false := by rw [hz, decide_eq_false hcq]
                clear hz HN2
                rcases hway with rfl | ⟨e1, rfl, e3⟩
                · go_wp2_with fail
                  go_roundg (js.length - (i + 1) + 1)
                  case measure => omega
                  case rel => exact ⟨i + 1, by omega, rfl, by go_num, by rw [HX.out]; go_num, HY, rfl⟩
                · have hs2' : ((st : Int) == 2) = false := by rw [beq_eq_false_iff_ne]; omega
                  have hs3' : (st : Int) < 3 := by omega
                  go_wp2_with fail
                  go_roundg (js.length - (i + 1) + 1)
                  case measure => omega
                  case rel => exact ⟨i + 1, by omega, rfl, by go_num, by rw [HX.out]; go_num, HY, rfl⟩
          · exfalso
            have e : i = js.length := by omega
            rw [e, ← HT.out] at hno
            omega
end Go.Proofs.YtanknpmojblmcaaGreatDoor

/-
  A world's walk: tick, finish, cancel.
-/
set_option linter.unusedSimpArgs false
set_option linter.unusedVariables false
namespace Go.Proofs.YtanknpmojblmcaaGreatDoor
open Go.RowKit

variable {D E : Nat → Prop} {bw sy kb : Nat} {x : WS} {gv jv qv bv : Value} {sl : Nat → Sl} {w w' : World} {ms : List MB} {bn bj N : Nat} {t : Int}

theorem wo_book (hw : Wo bw sy kb N t w) (hb : BM D E kb ms bn bj bv sl w) : bw ≠ kb ∧ bv.ownBlock ≠ some bw ∧ ∀ k, k < ms.length → (slV (sl k)).ownBlock ≠ some bw := by
  refine ⟨?_, row_ne hb.mr hw (by decide), fun k hk => row_ne (hb.pr k hk) hw (by decide)⟩
  intro e
  subst e
  have := hw.symm.trans hb.bk
  injection this with this
  injection this with _ h2 _
  exact absurd h2 (by decide)
/-- The world's clock is set. -/
theorem set_now {q : PS} (hw : Wo bw sy kb N t w) (hs : SM E sy q gv jv qv w) (hb : BM D E kb ms bn bj bv sl w) (he : ¬ E bw) (t' : Int) :
    Wo bw sy kb N t' (w.setCell ⟨bw, 2, none⟩ (.int .i64 t')) ∧ SM E sy q gv jv qv (w.setCell ⟨bw, 2, none⟩ (.int .i64 t')) ∧ BM D E kb ms bn bj bv sl (w.setCell ⟨bw, 2, none⟩ (.int .i64 t')) := by
  obtain ⟨a, b, c⟩ := wo_book hw hb
  exact ⟨whole_set hw 2 _, hs.setO he _, hb.setO a b c _⟩
theorem WM.keepD (h : WM D E bw sy kb x gv jv qv bv sl w) (k : Keep E w w') : Keep D w w' := k.widen h.ed

set_option maxRecDepth 100000 in
set_option maxHeartbeats 4000000 in
theorem wTick (h : WM D E bw sy kb x gv jv qv bv sl w) (hw : WOK x) (n : Nat) (hn1 : 1 ≤ n) (hn9 : n ≤ 9) :
    Calls Tryz.prog 59 #[.pointer (some ⟨bw, 0, none⟩), .int .i64 (n : Int)] w fun e w' => e = .returned (.bool true) ∧ (∃ qv', WM D E bw sy kb (if 3000 < x.p.now + (n : Int) then x else ⟨tickN x.p n, x.ms, x.bn⟩) gv jv qv' bv sl w') ∧ Keep D w w' := by
  have hn0 := hw.wi.st.f.n0
  have hn3 := hw.hi
  have HW : Hid (WM D E bw sy kb x gv jv qv bv sl w) := h
  have HK : Hid (WOK x) := hw
  have c0 := h.c.1
  clear h hw
  have hnI : (n : Int) ≤ 9 := by omega
  go_enter Tryz.func59, Tryz.ntmps59
  go_wp2_with fail
  refine (syTick HW.out.sm HK.out.wi.st.ok (n : Int) hn3).mono ?_
  rintro e y1 ⟨he, ⟨qv', hS⟩, hK1⟩
  have hWo : Wo bw sy kb x.p.nodes x.p.now y1 := (hK1.block bw HW.out.dw.2).trans HW.out.wo
  have hBm := HW.out.bm.keep hK1
  by_cases hlate : 3000 < x.p.now + (n : Int)
  · have ht : tickF x.p (n : Int) = (x.p, 13) := by unfold tickF; rw [if_neg (by omega), if_pos hlate]
    rw [ht] at he hS
    have HIF : Hid ((if 3000 < x.p.now + (n : Int) then x else ⟨tickN x.p n, x.ms, x.bn⟩) = x) := if_pos hlate
    clear ht
    have c2 := whole_cell hWo 2
    simp at c2
    have HS1 : Hid (SM E sy x.p gv jv qv' y1) := hS
    have HB1 : Hid _ := hBm
    have HW1 : Hid (Wo bw sy kb x.p.nodes x.p.now y1) := hWo
    have HK1 : Hid (Keep E w y1) := hK1
    clear hS hBm hWo hK1
    subst he
    go_wp2_with fail
    go_ret
    refine ⟨rfl, ⟨qv', ?_⟩, HW.out.keepD HK1.out⟩
    try rw [HIF.out]
    exact ⟨HW1.out, HS1.out, HB1.out, HW.out.ed, HW.out.dw⟩
  · have ht : tickF x.p (n : Int) = (tickN x.p n, 0) := by unfold tickF; rw [if_neg (by omega), if_neg hlate]; simp
    rw [ht] at he hS
    have HIF : Hid ((if 3000 < x.p.now + (n : Int) then x else ⟨tickN x.p n, x.ms, x.bn⟩) = ⟨tickN x.p n, x.ms, x.bn⟩) := if_neg hlate
    obtain ⟨_, b1, b2, b3, b4⟩ := tick_set HK.out.wi.st n (by omega)
    have HTL : Hid ((tickN x.p n).js.length = x.p.js.length ∧ (tickN x.p n).now = x.p.now + (n : Int) ∧ (tickN x.p n).nodes = x.p.nodes) := ⟨b1.1, b2, b3⟩
    clear ht b1 b2 b3 b4
    obtain ⟨q1, q2, q3⟩ := set_now hWo hS hBm HW.out.dw.2 (x.p.now + (n : Int))
    have c2 := whole_cell hWo 2; have z2 := whole_frozen hWo 2
    simp at c2
    have HQ1 : Hid _ := q1
    have HQ2 : Hid _ := q2
    have HQ3 : Hid _ := q3
    have HKD : Hid (Keep D w (y1.setCell ⟨bw, 2, none⟩ (.int .i64 (x.p.now + (n : Int))))) := (HW.out.keepD hK1).setCell HW.out.dw.1 _
    clear hS hBm hWo hK1 q1 q2 q3
    subst he
    have hl2 : ¬ 3000 < x.p.now + (n : Int) := hlate
    go_wp2_with fail
    go_ret
    refine ⟨rfl, ⟨qv', ?_⟩, HKD.out⟩
    try rw [HIF.out]
    obtain ⟨t1, t2, t3⟩ := HTL.out
    refine ⟨?_, HQ2.out, ?_, HW.out.ed, HW.out.dw⟩
    · show Wo bw sy kb (tickN x.p n).nodes (tickN x.p n).now _
      rw [t2, t3]; exact HQ1.out
    · show BM D E kb x.ms x.bn (tickN x.p n).js.length bv sl _
      rw [t1]; exact HQ3.out

set_option maxRecDepth 100000 in
set_option maxHeartbeats 4000000 in
theorem wCancel (h : WM D E bw sy kb x gv jv qv bv sl w) (hw : WOK x) (id : Nat) (hid : id < x.p.js.length) (hs : (x.p.js.getD id pj0).st ≤ 2) :
    Calls Tryz.prog 61 #[.pointer (some ⟨bw, 0, none⟩), .int .i64 (id : Int)] w fun e w' => e = .returned (.bool true) ∧ (∃ qv', WM D E bw sy kb ⟨(cancelF x.p (id : Int)).1, x.ms, x.bn⟩ gv jv qv' bv sl w') ∧ Keep D w w' := by
  obtain ⟨q, f1, f2, f3, f4, f5, f6, f7, f8, _⟩ := cancel_set hw.wi.st hid hs
  have HW : Hid (WM D E bw sy kb x gv jv qv bv sl w) := h
  have HK : Hid (WOK x) := hw
  have c0 := h.c.1
  have hl24 := f2.ok.n.ln
  have HSP : Hid (statP q (id : Int) = _) := statP_get (by rw [f6]; exact hid)
  have HF1 : Hid (cancelF x.p (id : Int) = (q, 0)) := f1
  have HQ : Hid (q.now = x.p.now ∧ q.nodes = x.p.nodes ∧ q.js.length = x.p.js.length ∧ (q.js.getD id pj0).st = 5 ∧ (q.js.getD id pj0).en = x.p.now) := ⟨f3, f4, f6, f7, f8⟩
  clear h hw f1 f2 f3 f4 f5 f6 f7 f8 hs hid
  go_enter Tryz.func61, Tryz.ntmps61
  go_wp2_with fail
  refine (syCancel HW.out.sm HK.out.wi.st.ok (id : Int)).mono ?_
  rintro e y1 ⟨he, ⟨qv', hS⟩, hK1⟩
  rw [HF1.out] at he hS
  subst he
  have hWM : WM D E bw sy kb ⟨q, x.ms, x.bn⟩ gv jv qv' bv sl y1 := HW.out.sys hS hK1 HQ.out.2.1 HQ.out.1 HQ.out.2.2.1
  have HW1 : Hid _ := hWM
  have HKD : Hid (Keep D w y1) := HW.out.keepD hK1
  have c01 := hWM.c.1
  clear hS hK1 hWM c0
  go_wp2_with fail
  refine (syStatus HW1.out.sm (id : Int) hl24).mono ?_
  rintro e y2 ⟨he, hY2⟩
  rw [HSP.out] at he
  obtain ⟨j, hj⟩ : ∃ j, j = q.js.getD id pj0 := ⟨_, rfl⟩
  have hq4 := HQ.out.2.2.2.1
  have hq5 := HQ.out.2.2.2.2
  rw [← hj] at he hq4 hq5
  change e = .returned (.tuple #[.agg #[.int .i64 (j.st : Int), .int .i64 (j.nd : Int), .int .i64 (j.tm : Int), .int .i64 j.sa, .int .i64 j.en], .int .i64 0]) at he
  rw [hq4, hq5] at he
  clear hj hq4 hq5
  subst he
  have Y := whole_new y2 (.cells #[.int .i64 5, .int .i64 (j.nd : Int), .int .i64 (j.tm : Int), .int .i64 j.sa, .int .i64 x.p.now] 82 (0, 0))
  have HB2 : Below y1.heap.size y1 (y2.alloc (.cells #[.int .i64 5, .int .i64 (j.nd : Int), .int .i64 (j.tm : Int), .int .i64 j.sa, .int .i64 x.p.now] 82)) := hY2.alloc hY2.size _
  have HW2 : Hid (WM D E bw sy kb ⟨q, x.ms, x.bn⟩ gv jv qv' bv sl (y2.alloc (.cells #[.int .i64 5, .int .i64 (j.nd : Int), .int .i64 (j.tm : Int), .int .i64 j.sa, .int .i64 x.p.now] 82))) := HW1.out.below HB2
  have HK2 : Hid (Keep D w (y2.alloc (.cells #[.int .i64 5, .int .i64 (j.nd : Int), .int .i64 (j.tm : Int), .int .i64 j.sa, .int .i64 x.p.now] 82))) := HKD.out.trans (Keep.below HB2 HW1.out.dom)
  go_upto_region 3 with fail
  generalize y2.alloc (.cells #[.int .i64 5, .int .i64 (j.nd : Int), .int .i64 (j.tm : Int), .int .i64 j.sa, .int .i64 x.p.now] 82) = y3 at *
  generalize y2.heap.size = sb at *
  have c2 := HW2.out.c.2.2.1
  have hqn := HQ.out.1
  change y3.cell? ⟨bw, 2, none⟩ = some (.int .i64 q.now) at c2
  rw [hqn] at c2
  have a0 := whole_cell Y 0; have a4 := whole_cell Y 4
  simp at a0 a4
  generalize x.p.now = tn at *
  clear hqn HB2 hY2 Y
  go_quiet (fail)
  go_wp2_with fail
  go_ret
  refine ⟨rfl, ⟨qv', ?_⟩, HK2.out.drewN _⟩
  rw [HF1.out]
  exact HW2.out.below (below_drewN (Below.refl _ _) _)

set_option maxRecDepth 100000 in
set_option maxHeartbeats 4000000 in
theorem wFinish (h : WM D E bw sy kb x gv jv qv bv sl w) (hw : WOK x) (id : Nat) (ok : Bool) (hid : id < x.p.js.length) (hs : (x.p.js.getD id pj0).st = 2) :
    Calls Tryz.prog 62 #[.pointer (some ⟨bw, 0, none⟩), .int .i64 (id : Int), .bool ok] w fun e w' => e = .returned (.bool true) ∧ (∃ qv', WM D E bw sy kb ⟨(finishF x.p (id : Int) ok).1, x.ms, x.bn⟩ gv jv qv' bv sl w') ∧ Keep D w w' := by
  obtain ⟨q, f1, f2, f3, f4, f5, f6, f7, f8, _⟩ := finish_set hw.wi.st ok hid hs
  have HW : Hid (WM D E bw sy kb x gv jv qv bv sl w) := h
  have HK : Hid (WOK x) := hw
  have c0 := h.c.1
  have hl24 := f2.ok.n.ln
  have HSP : Hid (statP q (id : Int) = _) := statP_get (by rw [f6]; exact hid)
  have HF1 : Hid (finishF x.p (id : Int) ok = (q, 0)) := f1
  have HQ : Hid (q.now = x.p.now ∧ q.nodes = x.p.nodes ∧ q.js.length = x.p.js.length ∧ (q.js.getD id pj0).st = (if ok = true then 3 else 4) ∧ (q.js.getD id pj0).en = x.p.now) := ⟨f3, f4, f6, f7, f8⟩
  clear h hw f1 f2 f3 f4 f5 f6 f7 f8 hs hid
  go_enter Tryz.func62, Tryz.ntmps62
  go_wp2_with fail
  refine (syFinish HW.out.sm HK.out.wi.st.ok (id : Int) ok).mono ?_
  rintro e y1 ⟨he, ⟨qv', hS⟩, hK1⟩
  rw [HF1.out] at he hS
  subst he
  have hWM : WM D E bw sy kb ⟨q, x.ms, x.bn⟩ gv jv qv' bv sl y1 := HW.out.sys hS hK1 HQ.out.2.1 HQ.out.1 HQ.out.2.2.1
  have HW1 : Hid _ := hWM
  have HKD : Hid (Keep D w y1) := HW.out.keepD hK1
  have c01 := hWM.c.1
  clear hS hK1 hWM c0
  go_wp2_with fail
  refine (syStatus HW1.out.sm (id : Int) hl24).mono ?_
  rintro e y2 ⟨he, hY2⟩
  rw [HSP.out] at he
  obtain ⟨j, hj⟩ : ∃ j, j = q.js.getD id pj0 := ⟨_, rfl⟩
  have hq4 := HQ.out.2.2.2.1
  have hq5 := HQ.out.2.2.2.2
  rw [← hj] at he hq4 hq5
  change e = .returned (.tuple #[.agg #[.int .i64 (j.st : Int), .int .i64 (j.nd : Int), .int .i64 (j.tm : Int), .int .i64 j.sa, .int .i64 j.en], .int .i64 0]) at he
  rw [hq5] at he
  obtain ⟨s5, hs5⟩ : ∃ s5, s5 = j.st := ⟨_, rfl⟩
  rw [← hs5] at he hq4
  have HQ4 : Hid (s5 = (if ok = true then 3 else 4)) := hq4
  clear hj hq4 hq5 hs5
  subst he
  have Y := whole_new y2 (.cells #[.int .i64 (s5 : Int), .int .i64 (j.nd : Int), .int .i64 (j.tm : Int), .int .i64 j.sa, .int .i64 x.p.now] 82 (0, 0))
  have HB2 : Below y1.heap.size y1 (y2.alloc (.cells #[.int .i64 (s5 : Int), .int .i64 (j.nd : Int), .int .i64 (j.tm : Int), .int .i64 j.sa, .int .i64 x.p.now] 82)) := hY2.alloc hY2.size _
  have HW2 : Hid (WM D E bw sy kb ⟨q, x.ms, x.bn⟩ gv jv qv' bv sl (y2.alloc (.cells #[.int .i64 (s5 : Int), .int .i64 (j.nd : Int), .int .i64 (j.tm : Int), .int .i64 j.sa, .int .i64 x.p.now] 82))) := HW1.out.below HB2
  have HK2 : Hid (Keep D w (y2.alloc (.cells #[.int .i64 (s5 : Int), .int .i64 (j.nd : Int), .int .i64 (j.tm : Int), .int .i64 j.sa, .int .i64 x.p.now] 82))) := HKD.out.trans (Keep.below HB2 HW1.out.dom)
  go_upto_region 3 with fail
  generalize y2.alloc (.cells #[.int .i64 (s5 : Int), .int .i64 (j.nd : Int), .int .i64 (j.tm : Int), .int .i64 j.sa, .int .i64 x.p.now] 82) = y3 at *
  generalize y2.heap.size = sb at *
  have c2 := HW2.out.c.2.2.1
  have hqn := HQ.out.1
  change y3.cell? ⟨bw, 2, none⟩ = some (.int .i64 q.now) at c2
  rw [hqn] at c2
  have a0 := whole_cell Y 0; have a4 := whole_cell Y 4
  simp at a0 a4
  generalize x.p.now = tn at *
  clear hqn HB2 hY2 Y
  have HRE : Hid (finishF x.p (id : Int) ok = (q, 0)) := HF1
  cases ok with
  | false =>
    have e4 : s5 = 4 := HQ4.out
    subst e4
    clear HQ4
    go_wp2_with fail
    go_quiet (fail)
    go_wp2_with fail
    go_ret
    refine ⟨rfl, ⟨qv', ?_⟩, HK2.out.drewN _⟩
    rw [HF1.out]
    exact HW2.out.below (below_drewN (Below.refl _ _) _)
  | true =>
    have e3 : s5 = 3 := HQ4.out
    subst e3
    clear HQ4
    go_wp2_with fail
    go_quiet (fail)
    go_wp2_with fail
    go_ret
    refine ⟨rfl, ⟨qv', ?_⟩, HK2.out.drewN _⟩
    rw [HF1.out]
    exact HW2.out.below (below_drewN (Below.refl _ _) _)
end Go.Proofs.YtanknpmojblmcaaGreatDoor

/-
  A world's walk: a book of its own.
-/
set_option linter.unusedSimpArgs false
set_option linter.unusedVariables false
namespace Go.Proofs.YtanknpmojblmcaaGreatDoor
open Go.RowKit

theorem news_of_row {w : World} {base size : Nat} {e : TypeId} {g n cap : Nat} {xs : List Value} (h : w.ownsRow base e size (.slice (some ⟨g, 0, none⟩) n cap) n xs) (hl : xs.length = n * size) : ∀ j u, xs[j]? = some u → w.cell? ((⟨g, 0, none⟩ : Addr).add j) = some u := by
  intro j u hu
  have hj : j < xs.length := by
    rcases Nat.lt_or_ge j xs.length with q | q
    · exact q
    · rw [List.getElem?_eq_none q] at hu; simp at hu
  have hadd : (⟨g, 0, none⟩ : Addr).add j = ⟨g, j, none⟩ := by unfold Addr.add; split <;> simp_all
  rw [hadd, h.cellAt j (by omega)]
  exact hu
theorem flatM_len (vs : List MV) : (flatM vs).length = vs.length * 12 := by
  induction vs with
  | nil => rfl
  | cons v r ih =>
    have e : flatM (v :: r) = (mvC v).toList ++ flatM r := by simp [flatM]
    rw [e, List.length_append, ih]
    simp [mvC]
    omega
theorem flatM_one (vs : List MV) : ∀ u ∈ flatM vs, u.oneCell' = true := by
  intro u hu
  unfold flatM at hu
  obtain ⟨l, hl, hul⟩ := List.mem_flatten.1 hu
  obtain ⟨v, _, rfl⟩ := List.mem_map.1 hl
  simp [mvC] at hul
  rcases hul with rfl | rfl | rfl | rfl | rfl | rfl | rfl | rfl | rfl | rfl | rfl | rfl <;> rfl

attribute [local go_sem ↓] Go.wp_at_zero Go.wp_at_succ
set_option maxRecDepth 100000 in
set_option maxHeartbeats 4000000 in
theorem wCopied (b : Nat) (v : Value) (bn bj : Nat) (ms : List MB) (sl : Nat → Sl) (w : World) (hB : Bk b v bn bj w) (hM : w.ownsRow 0 87 12 v ms.length (flatM (vsB ms sl))) (hnil : ms = [] → v = .slice none 0 0) (hl : ms.length ≤ 100) :
    Calls Tryz.prog 95 #[.pointer (some ⟨b, 0, none⟩)] w fun e w' => ∃ c v', e = .returned (.pointer (some ⟨c, 0, none⟩)) ∧ w.heap.size ≤ c ∧ Bk c v' bn bj w' ∧ w'.ownsRow (c + 1) 87 12 v' ms.length (flatM (vsB ms sl)) ∧ Below w.heap.size w w' := by
  obtain ⟨i0, hI0, hz0, hz1, hz2⟩ := info_parts infoMade
  have b0 := hB.c 0; have b1 := hB.c 1; have b2 := hB.c 2
  simp at b0 b1 b2
  have hbl := hB.lt
  have hfl := flatM_len (vsB ms sl)
  rw [vsB_len] at hfl
  have h1c := flatM_one (vsB ms sl)
  obtain ⟨FV, hFV⟩ : ∃ FV, FV = flatM (vsB ms sl) := ⟨_, rfl⟩
  rw [← hFV] at hM hfl h1c ⊢
  have HFL : Hid (FV.length = ms.length * 12) := hfl
  have H1C : Hid (∀ u ∈ FV, u.oneCell' = true) := h1c
  clear hFV hfl h1c
  go_enter Tryz.func95, Tryz.ntmps95
  go_upto_region 1 with fail
  go_cut [3] (fun s3 wx => s3 = .pointer (some ⟨w.heap.size, 0, none⟩) ∧ wx = (w.alloc (.cells #[.slice none 0 0, .int .i64 (bn : Int), .int .i64 (bj : Int)] 25)).drew)
  case first =>
    go_region
    all_goals
      go_wp2_with fail
      go_meet
      case rel => exact ⟨rfl, rfl⟩
  case rest =>
  obtain ⟨rfl, rfl⟩ := hcut
  have C := whole_new w (.cells #[.slice none 0 0, .int .i64 (bn : Int), .int .i64 (bj : Int)] 25 (0, 0))
  have HB0 : Below w.heap.size w (w.alloc (.cells #[.slice none 0 0, .int .i64 (bn : Int), .int .i64 (bj : Int)] 25)).drew := ((Below.refl _ w).alloc (Nat.le_refl _) _).drew
  have hM0 := (hM.alloc (.cells #[.slice none 0 0, .int .i64 (bn : Int), .int .i64 (bj : Int)] 25)).drew
  replace C : (w.alloc (.cells #[.slice none 0 0, .int .i64 (bn : Int), .int .i64 (bj : Int)] 25)).drew.heap[w.heap.size]? = some (.cells #[.slice none 0 0, .int .i64 (bn : Int), .int .i64 (bj : Int)] 25 (0, 0)) := C
  have b0' := (HB0.cell (p := ⟨b, 0, none⟩) hbl).trans b0
  generalize (w.alloc (.cells #[.slice none 0 0, .int .i64 (bn : Int), .int .i64 (bj : Int)] 25)).drew = x at *
  obtain ⟨c, hc⟩ : ∃ c, c = w.heap.size := ⟨_, rfl⟩
  rw [← hc] at C ⊢
  have hcx := whole_lt C
  have hcb : b ≠ c := by omega
  have hwc : w.heap.size ≤ c := by omega
  clear hc
  have c0 := whole_cell C 0; have z0 := whole_frozen C 0
  simp at c0
  clear b0 b1 b2 hM
  go_upto_region 2 with fail
  go_cut [3] (fun s3 wx => s3 = .pointer (some ⟨c, 0, none⟩) ∧ ∃ v', Bk c v' bn bj wx ∧ wx.ownsRow (c + 1) 87 12 v' ms.length FV ∧ Below w.heap.size w wx)
  case first =>
    by_cases h0 : ms.length = 0
    · have hms : ms = [] := List.eq_nil_of_length_eq_zero h0
      have hv := hnil hms
      subst hv
      have HFN : Hid (FV = []) := by show _ = _; have := HFL.out; rw [h0] at this; exact List.eq_nil_of_length_eq_zero (by omega)
      go_region
      all_goals
        go_wp2_with fail
        go_meet
        case rel =>
          refine ⟨rfl, .slice none 0 0, ?_, ?_, ?_⟩
          · exact whole_set C 0 _
          · rw [h0, HFN.out]; exact World.ownsRow_nil _ _ _ _
          · exact (HB0.setCell (p := ⟨c, 0, none⟩) hwc _).drew
    · obtain ⟨va, vc, rfl⟩ : ∃ va vc, v = .slice (some ⟨va, 0, none⟩) ms.length vc := by
        rcases hM0.2 with ⟨_, hn⟩ | ⟨g, cap, cur, rfl, _⟩
        · exact absurd hn h0
        · exact ⟨_, _, rfl⟩
      have hm0 : 0 < ms.length := by omega
      have HNW : Hid (∀ j u, FV[j]? = some u → x.cell? ((⟨va, 0, none⟩ : Addr).add j) = some u) := news_of_row hM0 HFL.out
      have fz : x.drew.frozen? ⟨c, 0, none⟩ = false := z0
      go_region_law
        ((refine step_append_lies _ (by rfl) _ _ _ (by rfl) (c + 1) 87 i0 _ 12 136 Tryz.underlying23 hI0 hz0 hz1 hz2 rfl (by omega) (.slice none 0 0) 0 [] (by rfl) (World.ownsRow_nil _ _ _ _)
            ⟨va, 0, none⟩ ms.length vc FV (by rfl) HFL.out HNW.out H1C.out
            (by omega) (by unfold maxLen; omega) (by omega) (by first | omega | (simp; omega)) _ rfl ?_; intro g3 cap3 w33 hown3 hgrow3 hat3 hlt3; have m3 : Bk c (.slice none 0 0) bn bj w33 := (hgrow3.block c (by first | omega | (simp; omega)) (by simp [Value.ownBlock])).trans C; have m3c := m3.c 0; have m3z := whole_frozen m3 0; simp at m3c))
      all_goals
        have m5 := whole_set m3 0 (.slice (some ⟨g3, 0, none⟩) (0 + ms.length) cap3)
        have r5 := owns_set' hown3 0 (.slice (some ⟨g3, 0, none⟩) (0 + ms.length) cap3)
        have HB5 : Below w.heap.size w w33 := by
          refine HB0.trans ⟨hgrow3.os, hgrow3.tape, hgrow3.output, hgrow3.size, ?_⟩
          intro q hq
          exact hgrow3.block q (by have := HB0.size; first | omega | (simp; omega)) (by simp [Value.ownBlock])
        have HB6 := HB5.setCell (p := ⟨c, 0, none⟩) hwc (.slice (some ⟨g3, 0, none⟩) (0 + ms.length) cap3)
        clear hgrow3 hat3 hown3 m3 m3z m3c HB5
        go_wp2_with fail
        go_meet
        case rel =>
          rw [Nat.zero_add] at m5 r5 HB6
          exact ⟨rfl, _, m5, r5, HB6⟩
  case rest =>
  obtain ⟨rfl, v', q1, q2, q3⟩ := hcut
  go_wp2_with fail
  go_ret
  exact ⟨c, v', rfl, hwc, q1, q2, q3⟩
end Go.Proofs.YtanknpmojblmcaaGreatDoor
