/-
  Package link: the first reference that there is not; to which heads of its batch a head has references.
-/
import Derived.Test.YtanknpmojblmcaaGreatDoorLkI
set_option linter.unusedSimpArgs false
set_option linter.unusedVariables false
namespace Go.Proofs.YtanknpmojblmcaaGreatDoor
open Go.RowKit

theorem flatS_get (hs : List Stp) : ∀ (k : Nat) (hk : k < hs.length) (j : Nat), j < 5 → (flatS hs)[k * 5 + j]? = (spC hs[k])[j]? := by
  induction hs with
  | nil => intro k hk; simp at hk
  | cons x r ih =>
    intro k hk j hj
    have e : flatS (x :: r) = (spC x).toList ++ flatS r := by simp [flatS]
    have hl : (spC x).toList.length = 5 := by simp [spC]
    rw [e]
    cases k with
    | zero => rw [List.getElem?_append_left (by omega)]; simp
    | succ k =>
      rw [List.getElem?_append_right (by omega), hl, show (k + 1) * 5 + j - 5 = k * 5 + j from by omega]
      exact ih k (by simpa using hk) j hj
/-- A list of steps that may be read alone. -/
def Ss (v : Value) (S : List Stp) (w : World) : Prop :=
  (v = .slice none 0 0 ∧ S = []) ∨ ∃ g cap, v = .slice (some ⟨g, 0, none⟩) S.length cap ∧ S.length ≤ cap ∧ g < w.heap.size ∧ ∀ k, (hk : k < S.length) → ∀ j, j < 5 → w.cell? ⟨g, k * 5 + j, none⟩ = (spC S[k])[j]?
theorem Ss.of {w : World} {b : Nat} {v : Value} {S : List Stp} (h : Sr b v S w) : Ss v S w := by
  rcases h.2 with ⟨hv, hn⟩ | ⟨g, cap, cur, hv, h1, h2, h3, h4, h5, h6⟩
  · exact Or.inl ⟨hv, List.eq_nil_of_length_eq_zero hn⟩
  · right
    subst hv
    refine ⟨g, cap, rfl, h3, whole_lt h2, ?_⟩
    intro k hk j hj
    rw [World.ownsRow.cellAt h (k * 5 + j) (by omega)]
    exact flatS_get S k hk j hj
theorem Ss.below {v : Value} {S : List Stp} {w w' : World} (h : Ss v S w) (k : Below w.heap.size w w') : Ss v S w' := by
  rcases h with h | ⟨g, cap, hv, hc, hg, hcell⟩
  · exact Or.inl h
  · exact Or.inr ⟨g, cap, hv, hc, Nat.lt_of_lt_of_le hg k.size, fun i hi j hj => (k.cell (p := ⟨g, i * 5 + j, none⟩) hg).trans (hcell i hi j hj)⟩

def exS (before own : List GV) (x : Stp) : Bool := existsG (meantG before own x.name) x.nbd x.num
def missS (before own : List GV) : List Stp → Option Nat
  | [] => none
  | x :: r => if hasR x = true ∧ exS before own x = false then some x.pos else missS before own r
def missH (before own : List GV) : List HV → Option Nat
  | [] => none
  | h :: r => match missS before own h.want with
    | some k => some k
    | none => missH before own r

set_option maxRecDepth 100000 in
set_option maxHeartbeats 2000000 in
theorem lkMissing (v u t : Value) (before own : List GV) (hs : List HV) (w : World) (hB : Gs v before w) (hO : Gs u own w) (hH : HdL t hs w) (hl : before.length ≤ 1000) (hm : own.length ≤ 1000) (hn : hs.length ≤ 100) (hok : ∀ x ∈ hs, HOK x)
    (hg : ∀ nm g, meantG before own nm = some g → g.lo + g.count ≤ 1000) :
    Calls Tryz.prog 22 #[v, u, t] w fun e w' => e = .returned (.tuple #[.int .i64 (((missH before own hs).getD 0 : Nat) : Int), .bool (missH before own hs).isSome]) ∧ Below w.heap.size w w' := by
  obtain ⟨a, c, rfl⟩ := hB.form
  obtain ⟨a', c', rfl⟩ := hO.form
  obtain ⟨ta, tc, rfl⟩ := hH.form
  have HH : Hid (HdL (.slice ta hs.length tc) hs w) := hH
  have HB : Hid (Gs (.slice a before.length c) before w) := hB
  have HO : Hid (Gs (.slice a' own.length c') own w) := hO
  have HOKs : Hid (∀ x ∈ hs, HOK x) := hok
  clear hH hok hB hO
  obtain ⟨R, hR⟩ : ∃ R, R = missH before own hs := ⟨_, rfl⟩
  rw [← hR]
  have HR0 : Hid (R = missH before own hs) := hR
  clear hR
  go_enter Tryz.func22, Tryz.ntmps22
  go_wp2_with fail
  go_loopg [14] (hs.length + 1) (fun r x wr => ∃ (n : Nat) (wz : World), wz = wr ∧ n ≤ hs.length ∧ r = hs.length - n + 1 ∧ x = .int .i64 (n : Int) ∧ Hid (R = missH before own (hs.drop n)) ∧ Hid (Below w.heap.size w wz))
  case atStart => exact ⟨0, _, rfl, Nat.zero_le _, rfl, rfl, HR0, Below.refl _ _⟩
  case round =>
    obtain ⟨n, wz, rfl, hnn, rfl, rfl, HR, HBz⟩ := hrel
    by_cases hlt : n < hs.length
    · have hlt' : (n : Int) < (hs.length : Int) := by omega
      rcases HH.out with ⟨_, he⟩ | ⟨b, cap, qs, hv, hcap, hb, hcell⟩
      · rw [he] at hlt; simp at hlt
      cases hv
      have hcl : ∀ j, j < 12 → wz.cell? ⟨b, n * 12 + j, none⟩ = (hvC hs[n] (qs n))[j]? := fun j hj => (HBz.out.cell hb).trans ((hcell n hlt).2 j hj)
      have l0 := hcl 0 (by omega); have l1 := hcl 1 (by omega); have l2 := hcl 2 (by omega); have l3 := hcl 3 (by omega); have l4 := hcl 4 (by omega); have l5 := hcl 5 (by omega)
      have l6 := hcl 6 (by omega); have l7 := hcl 7 (by omega); have l8 := hcl 8 (by omega); have l9 := hcl 9 (by omega); have l10 := hcl 10 (by omega); have l11 := hcl 11 (by omega)
      obtain ⟨qa, qc, hq⟩ := (hcell n hlt).1.form
      have HSs : Hid (Ss (qs n) hs[n].want w) := Ss.of (hcell n hlt).1
      generalize qs n = q at *
      subst hq
      simp [hvC] at l0 l1 l2 l3 l4 l5 l6 l7 l8 l9 l10 l11
      have hg1 : HOK hs[n] := HOKs.out _ (List.getElem_mem hlt)
      have HD : Hid (missH before own (hs.drop n) = match missS before own hs[n].want with | some k => some k | none => missH before own (hs.drop (n + 1))) := by
        show _ = _
        rw [List.drop_eq_getElem_cons hlt]; rfl
      have hwl := hg1.ln
      clear hcl hcell
      generalize hs[n] = h at *
      obtain ⟨X, hX⟩ : ∃ X, X = wz.alloc (.cells #[.string (bs h.name), .int .i64 (h.nodes : Int), .int .i64 (h.time : Int), .bool h.arr, .int .i64 (h.lo : Int), .int .i64 (h.hi : Int), .string (bs h.after), .slice qa h.want.length qc, .int .i64 (h.nameAt : Int), .int .i64 (h.nodesAt : Int), .int .i64 (h.timeAt : Int), .int .i64 (h.arrayAt : Int)] 64) := ⟨_, rfl⟩
      have HBX : Hid (Below w.heap.size w X) := by show Below _ _ _; rw [hX]; exact HBz.out.alloc HBz.out.size _
      go_wp2_with fail
      rw [← hX]
      clear hX l0 l1 l2 l3 l4 l5 l6 l7 l8 l9 l10 l11
      go_loopg [21] (h.want.length + 1) (fun r x wr => ∃ (k : Nat) (wy : World), wy = wr ∧ k ≤ h.want.length ∧ r = h.want.length - k + 1 ∧ x = .int .i64 (k : Int) ∧ Hid (missS before own h.want = missS before own (h.want.drop k)) ∧ Hid (Below w.heap.size w wy))
      case atStart => exact ⟨0, _, rfl, Nat.zero_le _, rfl, rfl, (rfl : missS before own h.want = missS before own (h.want.drop 0)), HBX⟩
      case round =>
        obtain ⟨k, wy, rfl, hk, rfl, rfl, HQ, HBy⟩ := hrel
        by_cases hkl : k < h.want.length
        · have hkl' : (k : Int) < (h.want.length : Int) := by omega
          rcases HSs.out with ⟨_, he⟩ | ⟨b2, cap2, hv, hcap2, hb2, hcell⟩
          · rw [he] at hkl; simp at hkl
          cases hv
          have hcl : ∀ j, j < 5 → wy.cell? ⟨b2, k * 5 + j, none⟩ = (spC h.want[k])[j]? := fun j hj => (HBy.out.cell hb2).trans (hcell k hkl j hj)
          have l0 := hcl 0 (by omega); have l1 := hcl 1 (by omega); have l2 := hcl 2 (by omega); have l3 := hcl 3 (by omega); have l4 := hcl 4 (by omega)
          simp [spC] at l0 l1 l2 l3 l4
          have hx := hg1.op _ (List.getElem_mem hkl)
          have HDS : Hid (missS before own (h.want.drop k) = if hasR h.want[k] = true ∧ exS before own h.want[k] = false then some h.want[k].pos else missS before own (h.want.drop (k + 1))) := by
            show _ = _
            rw [List.drop_eq_getElem_cons hkl]; rfl
          clear hcl hcell
          generalize h.want[k] = x at *
          obtain ⟨hx1, hx2, hx3⟩ := hx
          have Y := whole_new wy (.cells (spC x) 112 (0, 0))
          replace Y : (wy.alloc (.cells #[.int .i64 (x.op : Int), .int .i64 (x.pos : Int), .string (bs x.name), .bool x.nbd, .int .i64 (x.num : Int)] 112)).heap[wy.heap.size]? = some (.cells (spC x) 112 (0, 0)) := Y
          have HBa : Hid (Below w.heap.size w (wy.alloc (.cells #[.int .i64 (x.op : Int), .int .i64 (x.pos : Int), .string (bs x.name), .bool x.nbd, .int .i64 (x.num : Int)] 112))) := HBy.out.alloc HBy.out.size _
          go_wp2_with fail
          generalize wy.alloc (.cells #[.int .i64 (x.op : Int), .int .i64 (x.pos : Int), .string (bs x.name), .bool x.nbd, .int .i64 (x.num : Int)] 112) = y1 at *
          generalize wy.heap.size = yb at *
          refine (lkHasRef x hx1 _).mono ?_
          rintro e y2 ⟨he, hY2⟩
          have Y2 := (hY2.block _ (whole_lt Y)).trans Y
          have HB2 : Hid (Below w.heap.size w y2) := HBa.out.trans (hY2.mono HBa.out.size)
          have d1 := whole_cell Y2 1; have d2 := whole_cell Y2 2; have d3 := whole_cell Y2 3; have d4 := whole_cell Y2 4
          simp [spC] at d1 d2 d3 d4
          clear hY2 Y l0 l1 l2 l3 l4
          cases hh : hasR x with
          | false =>
            rw [hh] at he
            subst he
            go_wp2_with fail
            go_roundg (h.want.length - (k + 1) + 1)
            case measure => omega
            case rel => exact ⟨k + 1, _, rfl, by omega, rfl, by go_num, (by show _ = _; rw [HQ.out, HDS.out, hh]; simp), HB2⟩
          | true =>
            rw [hh] at he
            subst he
            go_wp2_with fail
            refine (lkExists _ _ before own x.pos x.name x.nbd x.num _ (HB.out.below (HB2.out)) (HO.out.below (HB2.out)) hl hm (hg x.name) hx2).mono ?_
            rintro e y3 ⟨he, hY3⟩
            change e = .returned (.bool (exS before own x)) at he
            have Y3 := (hY3.block _ (whole_lt Y2)).trans Y2
            have HB3 : Hid (Below w.heap.size w y3) := HB2.out.trans (hY3.mono HB2.out.size)
            have f1 := whole_cell Y3 1
            simp [spC] at f1
            clear hY3 Y2 d1 d2 d3 d4
            cases hx4 : exS before own x with
            | true =>
              rw [hx4] at he
              subst he
              go_wp2_with fail
              go_roundg (h.want.length - (k + 1) + 1)
              case measure => omega
              case rel => exact ⟨k + 1, _, rfl, by omega, rfl, by go_num, (by show _ = _; rw [HQ.out, HDS.out, hx4]; simp), HB3⟩
            | false =>
              rw [hx4] at he
              subst he
              have HF : Hid (R = some x.pos) := by
                show _ = _
                rw [HR.out, HD.out, HQ.out, HDS.out, if_pos ⟨hh, hx4⟩]
              go_wp2_with fail
              go_ret2
              exact ⟨by rw [HF.out]; rfl, HB3.out⟩
        · have hkl' : ¬ (k : Int) < (h.want.length : Int) := by omega
          have HF : Hid (R = missH before own (hs.drop (n + 1))) := by
            show _ = _
            have e : h.want.drop k = [] := List.drop_eq_nil_of_le (by omega)
            rw [HR.out, HD.out, HQ.out, e]; rfl
          go_wp2_with fail
          go_roundg (hs.length - (n + 1) + 1)
          case measure => omega
          case rel => exact ⟨n + 1, _, rfl, by omega, rfl, by go_num, HF, HBy⟩
    · have hlt' : ¬ (n : Int) < (hs.length : Int) := by omega
      have HF : Hid (R = none) := by
        show _ = _
        have e : hs.drop n = [] := List.drop_eq_nil_of_le (by omega)
        rw [HR.out, e]; rfl
      go_wp2_with fail
      go_ret2
      exact ⟨by rw [HF.out]; rfl, HBz.out⟩

/-- To which heads of its batch a head has references. -/
def waitS (own : List GV) : List Stp → List Nat
  | [] => []
  | x :: r => if hasR x = true then (match latN own x.name own.length with | some i => i :: waitS own r | none => waitS own r) else waitS own r
theorem waitS_app (own : List GV) (A B : List Stp) : waitS own (A ++ B) = waitS own A ++ waitS own B := by
  induction A with
  | nil => rfl
  | cons x r ih =>
    simp only [List.cons_append, waitS]
    split
    · split <;> simp [ih]
    · exact ih
theorem waitS_take (own : List GV) {S : List Stp} {n : Nat} (h : n < S.length) : waitS own (S.take (n + 1)) = waitS own (S.take n) ++ (if hasR S[n] = true then (match latN own S[n].name own.length with | some i => [i] | none => []) else []) := by
  rw [List.take_succ_eq_append_getElem h, waitS_app]
  congr 1
theorem waitS_len (own : List GV) (S : List Stp) : (waitS own S).length ≤ S.length := by
  induction S with
  | nil => exact Nat.le_refl _
  | cons x r ih =>
    simp only [waitS]
    split
    · split <;> simp <;> omega
    · simp; omega

set_option maxRecDepth 100000 in
set_option maxHeartbeats 2000000 in
theorem lkWaitsFor (u : Value) (own : List GV) (h : HV) (q : Value) (w : World) (hO : Gs u own w) (hS : Ss q h.want w) (hm : own.length ≤ 1000) (hok : HOK h) :
    Calls Tryz.prog 47 #[u, .agg (hvC h q)] w fun e w' => ∃ x, e = .returned x ∧ w'.ownsRow w.heap.size 3 1 x (waitS own h.want).length ((waitS own h.want).map iV) ∧ Below w.heap.size w w' := by
  obtain ⟨i0, hI0, hz0, hz1, hz2⟩ := info_parts infoIntL
  obtain ⟨a', c', rfl⟩ := hO.form
  obtain ⟨qa, qc, rfl⟩ : ∃ qa qc, q = .slice qa h.want.length qc := by
    rcases hS with ⟨rfl, e⟩ | ⟨g, cap, rfl, _⟩
    · rw [e]; exact ⟨_, _, rfl⟩
    · exact ⟨_, _, rfl⟩
  have HO : Hid (Gs (.slice a' own.length c') own w) := hO
  have HS : Hid (Ss (.slice qa h.want.length qc) h.want w) := hS
  have hwl := hok.ln
  have HL : Hid (∀ n, (waitS own (h.want.take n)).length ≤ 1000) := by
    intro n
    have h1 := waitS_len own (h.want.take n)
    rw [List.length_take] at h1
    omega
  clear hO hS
  unfold hvC
  go_enter Tryz.func47, Tryz.ntmps47
  have HBX : Hid (Below w.heap.size w (w.alloc (.cells #[.string (bs h.name), .int .i64 (h.nodes : Int), .int .i64 (h.time : Int), .bool h.arr, .int .i64 (h.lo : Int), .int .i64 (h.hi : Int), .string (bs h.after), .slice qa h.want.length qc, .int .i64 (h.nameAt : Int), .int .i64 (h.nodesAt : Int), .int .i64 (h.timeAt : Int), .int .i64 (h.arrayAt : Int)] 64))) := (Below.refl _ w).alloc (Nat.le_refl _) _
  go_wp2_with fail
  generalize w.alloc (.cells #[.string (bs h.name), .int .i64 (h.nodes : Int), .int .i64 (h.time : Int), .bool h.arr, .int .i64 (h.lo : Int), .int .i64 (h.hi : Int), .string (bs h.after), .slice qa h.want.length qc, .int .i64 (h.nameAt : Int), .int .i64 (h.nodesAt : Int), .int .i64 (h.timeAt : Int), .int .i64 (h.arrayAt : Int)] 64) = X at *
  go_loopg [5, 12] (h.want.length + 1) (fun r lv x wr => ∃ (k : Nat) (wy : World), wy = wr ∧ k ≤ h.want.length ∧ r = h.want.length - k + 1 ∧ x = .int .i64 (k : Int) ∧ Hid (wy.ownsRow w.heap.size 3 1 lv (waitS own (h.want.take k)).length ((waitS own (h.want.take k)).map iV)) ∧ Hid (Below w.heap.size w wy))
  case atStart => exact ⟨0, _, rfl, Nat.zero_le _, rfl, rfl, World.ownsRow_nil _ _ _ _, HBX⟩
  case round =>
    obtain ⟨k, wy, rfl, hk, rfl, rfl, HR, HBy⟩ := hrel
    obtain ⟨la, lc, rfl⟩ := row_formL HR.out
    have hRl := HL.out k
    by_cases hkl : k < h.want.length
    · have hkl' : (k : Int) < (h.want.length : Int) := by omega
      rcases HS.out with ⟨_, he⟩ | ⟨b2, cap2, hv, hcap2, hb2, hcell⟩
      · rw [he] at hkl; simp at hkl
      cases hv
      have hcl : ∀ j, j < 5 → wy.cell? ⟨b2, k * 5 + j, none⟩ = (spC h.want[k])[j]? := fun j hj => (HBy.out.cell hb2).trans (hcell k hkl j hj)
      have l0 := hcl 0 (by omega); have l1 := hcl 1 (by omega); have l2 := hcl 2 (by omega); have l3 := hcl 3 (by omega); have l4 := hcl 4 (by omega)
      simp [spC] at l0 l1 l2 l3 l4
      have hx := hok.op _ (List.getElem_mem hkl)
      have HSU : Hid (waitS own (h.want.take (k + 1)) = waitS own (h.want.take k) ++ (if hasR h.want[k] = true then (match latN own h.want[k].name own.length with | some i => [i] | none => []) else [])) := waitS_take own hkl
      clear hcl hcell
      generalize h.want[k] = x at *
      generalize waitS own (h.want.take k) = E at *
      obtain ⟨hx1, hx2, hx3⟩ := hx
      have Y := whole_new wy (.cells (spC x) 112 (0, 0))
      replace Y : (wy.alloc (.cells #[.int .i64 (x.op : Int), .int .i64 (x.pos : Int), .string (bs x.name), .bool x.nbd, .int .i64 (x.num : Int)] 112)).heap[wy.heap.size]? = some (.cells (spC x) 112 (0, 0)) := Y
      have HBa : Hid (Below w.heap.size w (wy.alloc (.cells #[.int .i64 (x.op : Int), .int .i64 (x.pos : Int), .string (bs x.name), .bool x.nbd, .int .i64 (x.num : Int)] 112))) := HBy.out.alloc HBy.out.size _
      have HRa : Hid ((wy.alloc (.cells #[.int .i64 (x.op : Int), .int .i64 (x.pos : Int), .string (bs x.name), .bool x.nbd, .int .i64 (x.num : Int)] 112)).ownsRow w.heap.size 3 1 (.slice la E.length lc) E.length (E.map iV)) := HR.out.alloc _
      go_wp2_with fail
      generalize wy.alloc (.cells #[.int .i64 (x.op : Int), .int .i64 (x.pos : Int), .string (bs x.name), .bool x.nbd, .int .i64 (x.num : Int)] 112) = y1 at *
      generalize wy.heap.size = yb at *
      refine (lkHasRef x hx1 _).mono ?_
      rintro e y2 ⟨he, hY2⟩
      have Y2 := (hY2.block _ (whole_lt Y)).trans Y
      have HB2 : Hid (Below w.heap.size w y2) := HBa.out.trans (hY2.mono HBa.out.size)
      have HR2 : Hid (y2.ownsRow w.heap.size 3 1 (.slice la E.length lc) E.length (E.map iV)) := owns_below HRa.out hY2
      have d2 := whole_cell Y2 2
      simp [spC] at d2
      clear hY2 Y l0 l1 l2 l3 l4
      cases hh : hasR x with
      | false =>
        rw [hh] at he
        subst he
        go_wp2_with fail
        go_roundg (h.want.length - (k + 1) + 1)
        case measure => omega
        case rel => exact ⟨k + 1, _, rfl, by omega, rfl, by go_num, (by show World.ownsRow _ _ _ _ _ _ _; rw [HSU.out, hh]; simpa using HR2.out), HB2⟩
      | true =>
        rw [hh] at he
        subst he
        go_wp2_with fail
        refine (lkLatest _ own x.name _ (HO.out.below HB2.out) hm).mono ?_
        rintro e y3 ⟨he, hY3⟩
        have HB3 : Hid (Below w.heap.size w y3) := HB2.out.trans (hY3.mono HB2.out.size)
        have hown3 := owns_below HR2.out hY3
        have hsz3 := HB3.out.size
        clear hY3 Y2 d2
        rw [hh, if_pos rfl] at HSU
        cases hx4 : latN own x.name own.length with
        | none =>
          rw [hx4] at he HSU
          change e = .returned (.int .i64 (-1)) at he
          subst he
          go_wp2_with fail
          go_roundg (h.want.length - (k + 1) + 1)
          case measure => omega
          case rel => exact ⟨k + 1, _, rfl, by omega, rfl, by go_num, (by show World.ownsRow _ _ _ _ _ _ _; rw [HSU.out]; simpa using hown3), HB3⟩
        | some i =>
          rw [hx4] at he HSU
          change e = .returned (.int .i64 (i : Int)) at he
          subst he
          have hi0 : (0 : Int) ≤ (i : Int) := by omega
          go_wp2_with (at_builtin; refine wpList_append_lies _ rfl _ _ 36 rfl w.heap.size 3 i0 (.int .i64 0) 1 8 Tryz.underlying36 hI0 hz0 hz1 hz2 rfl (by decide) _ E.length _ rfl (hown3.alloc _) ⟨y3.heap.size, 0, none⟩ 1 1 [.int .i64 (i : Int)] rfl rfl (World.news_of_block (cs := #[.int .i64 (i : Int)]) (t := 3) (fr := (0, 0)) (heap_alloc_new y3 _)) ?c2 (by decide) ?c3 ?c4 ?c5 _ rfl ?_)
          case c2 => first | rfl | (intro u hu; simp at hu; subst hu; rfl)
          case c3 => unfold maxLen; omega
          case c4 => omega
          case c5 => first | omega | (simp; omega)
          intro g4 cap4 x4 hown4 hgrow4 hat4 hlt4
          have HB4 : Hid (Below w.heap.size w x4) := (HB3.out.alloc hsz3 _).grown hgrow4 (by simp; omega) (fun q hq => (hown3.lt q hq).1)
          have HR4 : Hid (x4.ownsRow w.heap.size 3 1 (.slice (some ⟨g4, 0, none⟩) (E.length + 1) cap4) (E ++ [i]).length ((E ++ [i]).map iV)) := by
            show World.ownsRow _ _ _ _ _ _ _
            simpa [iV] using hown4
          clear hgrow4 hown4 hat4 hown3
          go_wp2_with fail
          go_roundg (h.want.length - (k + 1) + 1)
          case measure => omega
          case rel => exact ⟨k + 1, _, rfl, by omega, rfl, by go_num, (by show World.ownsRow _ _ _ _ _ _ _; rw [HSU.out]; exact HR4.out), HB4⟩
    · have hkl' : ¬ (k : Int) < (h.want.length : Int) := by omega
      have hkk : k = h.want.length := by omega
      subst hkk
      rw [List.take_length] at HR ⊢
      go_wp2_with fail
      go_ret
      exact ⟨_, rfl, HR.out, HBy.out⟩
end Go.Proofs.YtanknpmojblmcaaGreatDoor
