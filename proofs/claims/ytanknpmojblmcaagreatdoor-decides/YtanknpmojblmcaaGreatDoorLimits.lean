/-
  The program's beyondLimit and namedTwice.
-/
import Derived.Test.YtanknpmojblmcaaGreatDoorHeadsW
set_option linter.unusedSimpArgs false
set_option linter.unusedVariables false
namespace Go.Proofs.YtanknpmojblmcaaGreatDoor
open Go.RowKit

theorem flatH_len (xs : List (HV × Value)) : (flatH xs).length = xs.length * 12 := by
  induction xs with
  | nil => rfl
  | cons h r ih =>
    have : flatH (h :: r) = (hvC h.1 h.2).toList ++ flatH r := rfl
    rw [this, List.length_append, ih]
    simp [hvC]; omega
theorem flatH_get (xs : List (HV × Value)) : ∀ (k : Nat) (hk : k < xs.length) (j : Nat), j < 12 → (flatH xs)[k * 12 + j]? = (hvC xs[k].1 xs[k].2)[j]? := by
  induction xs with
  | nil => intro k hk; simp at hk
  | cons h r ih =>
    intro k hk j hj
    have e : flatH (h :: r) = (hvC h.1 h.2).toList ++ flatH r := rfl
    have hl : (hvC h.1 h.2).toList.length = 12 := by simp [hvC]
    rw [e]
    cases k with
    | zero => rw [List.getElem?_append_left (by omega)]; simp
    | succ k =>
      rw [List.getElem?_append_right (by omega), hl, show (k + 1) * 12 + j - 12 = k * 12 + j from by omega, ih k (by simpa using hk) j hj]
      simp

/-- A slice of heads that can be read; each with the slice of its steps. -/
def Hs (v : Value) (hs : List HV) (w : World) : Prop :=
  (v = .slice none 0 0 ∧ hs = []) ∨ ∃ g cap, ∃ qs : Nat → Value, v = .slice (some ⟨g, 0, none⟩) hs.length cap ∧ hs.length ≤ cap ∧ g < w.heap.size ∧ (∀ k, k < hs.length → ∃ pa n pc, qs k = .slice pa n pc) ∧ ∀ k, (hk : k < hs.length) → ∀ j, j < 12 → w.cell? ⟨g, k * 12 + j, none⟩ = (hvC hs[k] (qs k))[j]?

theorem Hs.of {w : World} {base b : Nat} {v : Value} {hs : List HV} {xs : List (HV × Value)} (h : w.ownsRow base 64 12 v xs.length (flatH xs)) (hx : xs.map Prod.fst = hs) (hq : ∀ x ∈ xs, Sr b x.2 x.1.want w) : Hs v hs w := by
  subst hx
  rcases h.2 with ⟨hv, hn⟩ | ⟨g, cap, cur, hv, h1, h2, h3, h4, h5, h6⟩
  · exact Or.inl ⟨hv, by rw [List.eq_nil_of_length_eq_zero hn]; rfl⟩
  · right
    subst hv
    refine ⟨g, cap, fun k => (xs.getD k (hv0, .slice none 0 0)).2, by simp, by simpa using h3, whole_lt h2, ?_, ?_⟩
    · intro k hk
      have hk' : k < xs.length := by simpa using hk
      obtain ⟨pa, pc, e⟩ := (hq xs[k] (List.getElem_mem hk')).form
      exact ⟨pa, _, pc, by simpa [List.getD_eq_getElem?_getD, List.getElem?_eq_getElem hk'] using e⟩
    · intro k hk j hj
      have hk' : k < xs.length := by simpa using hk
      rw [h.cellAt (k * 12 + j) (by omega), flatH_get xs k hk' j hj]
      simp [List.getD_eq_getElem?_getD, List.getElem?_eq_getElem hk']

theorem bey_n {hs : List HV} {k : Nat} {x : HV} (hx : hs.drop k = x :: hs.drop (k + 1)) (h : x.nodes < 1 ∨ 8 < x.nodes) : beyH (hs.drop k) = (x.nodesAt, true) := by
  rw [hx]; unfold beyH; rw [if_pos (by omega)]
theorem bey_t {hs : List HV} {k : Nat} {x : HV} (hx : hs.drop k = x :: hs.drop (k + 1)) (h1 : 1 ≤ x.nodes ∧ x.nodes ≤ 8) (h : x.time < 1 ∨ 12 < x.time) : beyH (hs.drop k) = (x.timeAt, true) := by
  rw [hx]; unfold beyH; rw [if_neg (by omega), if_pos (by omega)]
theorem bey_a {hs : List HV} {k : Nat} {x : HV} (hx : hs.drop k = x :: hs.drop (k + 1)) (h1 : 1 ≤ x.nodes ∧ x.nodes ≤ 8) (h2 : 1 ≤ x.time ∧ x.time ≤ 12) (h3 : x.arr = true) (h : x.hi < x.lo ∨ x.lo + 6 ≤ x.hi) : beyH (hs.drop k) = (x.arrayAt, true) := by
  rw [hx]; unfold beyH; rw [if_neg (by omega), if_neg (by omega), if_pos ⟨h3, by omega⟩]
theorem bey_go {hs : List HV} {k : Nat} {x : HV} (hx : hs.drop k = x :: hs.drop (k + 1)) (h1 : 1 ≤ x.nodes ∧ x.nodes ≤ 8) (h2 : 1 ≤ x.time ∧ x.time ≤ 12) (h : x.arr = true → x.lo ≤ x.hi ∧ x.hi < x.lo + 6) : beyH (hs.drop k) = beyH (hs.drop (k + 1)) := by
  rw [hx]; conv => lhs; unfold beyH
  rw [if_neg (by omega), if_neg (by omega), if_neg (by intro hh; have := h hh.1; omega)]

set_option maxHeartbeats 2000000 in
theorem beyondLimit_any (v : Value) (hs : List HV) (w : World) (h : Hs v hs w) (hl : hs.length ≤ 1000) (hb : ∀ x ∈ hs, x.nodes ≤ 99 ∧ x.time ≤ 99 ∧ x.lo ≤ 99 ∧ x.hi ≤ 99) :
    Calls Tryz.prog 41 #[v] w fun e w' => e = .returned (.tuple #[.int .i64 ((beyH hs).1 : Int), .bool (beyH hs).2]) ∧ Below w.heap.size w w' := by
  rcases h with ⟨rfl, rfl⟩ | ⟨g, cap, qs, rfl, hc, hg, hqs, hcell⟩
  · go_enter Tryz.func41, Tryz.ntmps41
    go_wp2_with fail
    go_loopg [9] 1 (fun k x wr => k = 1 ∧ x = .int .i64 0 ∧ wr = w)
    case atStart => exact ⟨rfl, rfl, rfl⟩
    case round =>
      obtain ⟨rfl, rfl, rfl⟩ := hrel
      go_wp2_with fail
      go_ret2
      exact ⟨rfl, Below.refl _ _⟩
  · go_enter Tryz.func41, Tryz.ntmps41
    go_wp2_with fail
    go_loopg [9] hs.length (fun m x wr => ∃ k : Nat, m = hs.length - k ∧ k ≤ hs.length ∧ x = .int .i64 (k : Int) ∧ Below w.heap.size w wr ∧ Hid (beyH hs = beyH (hs.drop k)))
    case atStart => exact ⟨0, rfl, Nat.zero_le _, rfl, Below.refl _ _, rfl⟩
    case round =>
      obtain ⟨k, rfl, hk, rfl, hB, HL⟩ := hrel
      have hcl : ∀ k, (hk : k < hs.length) → ∀ j, j < 12 → wr.cell? ⟨g, k * 12 + j, none⟩ = (hvC hs[k] (qs k))[j]? := fun k hk j hj => (hB.cell hg).trans (hcell k hk j hj)
      by_cases hlt : k < hs.length
      · have hlt' : (k : Int) < (hs.length : Int) := by omega
        have l0 := hcl k hlt 0 (by omega); have l1 := hcl k hlt 1 (by omega); have l2 := hcl k hlt 2 (by omega); have l3 := hcl k hlt 3 (by omega); have l4 := hcl k hlt 4 (by omega); have l5 := hcl k hlt 5 (by omega); have l6 := hcl k hlt 6 (by omega); have l7 := hcl k hlt 7 (by omega); have l8 := hcl k hlt 8 (by omega); have l9 := hcl k hlt 9 (by omega); have l10 := hcl k hlt 10 (by omega); have l11 := hcl k hlt 11 (by omega)
        obtain ⟨pq, nq', cq, hqk⟩ := hqs k hlt
        rw [hqk] at l0 l1 l2 l3 l4 l5 l6 l7 l8 l9 l10 l11
        have hxb := hb hs[k] (List.getElem_mem hlt)
        have HX : Hid (hs.drop k = hs[k] :: hs.drop (k + 1)) := List.drop_eq_getElem_cons hlt
        generalize hs[k] = x at *
        simp [hvC] at l0 l1 l2 l3 l4 l5 l6 l7 l8 l9 l10 l11
        clear hcl hcell
        have hs1 : (x.hi : Int) - (x.lo : Int) ≤ 99 := by omega
        have hs2 : -99 ≤ (x.hi : Int) - (x.lo : Int) := by omega
        have q1 := hB.size
        cases ha : x.arr with
        | true =>
          have HA : Hid (x.arr = true) := ha
          rw [ha] at l3
          clear ha
          go_wp2_with fail
          all_goals first
            | (go_ret2; refine ⟨?_, (hB.alloc (by omega) _).alloc (by simp; omega) _⟩; rw [HL.out, bey_n HX.out (by omega)]; rfl)
            | (go_ret2; refine ⟨?_, (hB.alloc (by omega) _).alloc (by simp; omega) _⟩; rw [HL.out, bey_t HX.out (by omega) (by omega)]; rfl)
            | (go_ret2; refine ⟨?_, (hB.alloc (by omega) _).alloc (by simp; omega) _⟩; rw [HL.out, bey_a HX.out (by omega) (by omega) HA.out (by omega)]; rfl)
            | (go_roundg (hs.length - (k + 1))
               case measure => omega
               case rel => exact ⟨k + 1, rfl, hlt, by go_num, (hB.alloc (by omega) _).alloc (by simp; omega) _, HL.out.trans (bey_go HX.out (by omega) (by omega) (fun _ => by omega))⟩)
        | false =>
          have HA : Hid (x.arr = false) := ha
          rw [ha] at l3
          clear ha
          go_wp2_with fail
          all_goals first
            | (go_ret2; refine ⟨?_, (hB.alloc (by omega) _).alloc (by simp; omega) _⟩; rw [HL.out, bey_n HX.out (by omega)]; rfl)
            | (go_ret2; refine ⟨?_, (hB.alloc (by omega) _).alloc (by simp; omega) _⟩; rw [HL.out, bey_t HX.out (by omega) (by omega)]; rfl)
            | (go_roundg (hs.length - (k + 1))
               case measure => omega
               case rel => exact ⟨k + 1, rfl, hlt, by go_num, (hB.alloc (by omega) _).alloc (by simp; omega) _, HL.out.trans (bey_go HX.out (by omega) (by omega) (fun e => by rw [HA.out] at e; cases e))⟩)
      · have hlt' : decide ((k : Int) < (hs.length : Int)) = false := by simp; omega
        have HE : Hid (beyH hs = (0, false)) := by show _ = _; rw [HL.out, List.drop_eq_nil_of_le (by omega)]; rfl
        clear HL hcl hcell
        go_wp2_with fail
        go_ret2
        rw [HE.out]
        exact ⟨rfl, hB⟩

theorem Hs.later {v : Value} {hs : List HV} {w w' : World} (h : Hs v hs w) (hB : Below w.heap.size w w') : Hs v hs w' := by
  rcases h with h | ⟨g, cap, qs, hv, hc, hg, hqs, hcell⟩
  · exact Or.inl h
  · exact Or.inr ⟨g, cap, qs, hv, hc, Nat.lt_of_lt_of_le hg hB.size, hqs, fun k hk j hj => (hB.cell hg).trans (hcell k hk j hj)⟩

theorem twi_step {hs : List HV} {k : Nat} (hk : k < hs.length) : twiH (hs.take k) (hs.drop k) = if (hs.take k).any (fun g => g.name == hs[k].name) then (hs[k].nameAt, true) else twiH (hs.take (k + 1)) (hs.drop (k + 1)) := by
  rw [List.drop_eq_getElem_cons hk]
  conv => lhs; unfold twiH
  rw [List.take_succ_eq_append_getElem hk]

theorem bs_toList (l : List UInt8) : (bs l).toList = l := by rw [ByteArray.toList_eq]; exact bs_list l
theorem any_take {hs : List HV} {k q : Nat} (hq : q < k) (hk : k < hs.length) (h : (hs[q].name == hs[k].name) = true) : (hs.take k).any (fun g => g.name == hs[k].name) = true := by
  rw [List.any_eq_true]
  exact ⟨hs[q], by rw [List.mem_take_iff_getElem]; exact ⟨q, by omega, rfl⟩, h⟩
theorem any_take_no {hs : List HV} {k : Nat} (hk : k < hs.length) (h : ∀ r, r < k → ∀ (hr : r < hs.length), (hs[r].name == hs[k].name) = false) : (hs.take k).any (fun g => g.name == hs[k].name) = false := by
  rw [List.any_eq_false]
  intro x hx
  rw [List.mem_take_iff_getElem] at hx
  obtain ⟨r, hr, rfl⟩ := hx
  rw [h r (by omega) (by omega)]; decide

set_option maxHeartbeats 2000000 in
theorem namedTwice_any (v : Value) (hs : List HV) (w : World) (h : Hs v hs w) (hl : hs.length ≤ 1000) :
    Calls Tryz.prog 42 #[v] w fun e w' => e = .returned (.tuple #[.int .i64 ((twiH [] hs).1 : Int), .bool (twiH [] hs).2]) ∧ ∃ n, w' = w.drewN n := by
  rcases h with ⟨rfl, rfl⟩ | ⟨g, cap, qs, rfl, hc, hg, hqs, hcell⟩
  · go_enter Tryz.func42, Tryz.ntmps42
    go_wp2_with fail
    go_loopg [8] 1 (fun k x wr => k = 1 ∧ x = .int .i64 0 ∧ wr = w)
    case atStart => exact ⟨rfl, rfl, rfl⟩
    case round =>
      obtain ⟨rfl, rfl, rfl⟩ := hrel
      go_wp2_with fail
      go_ret2
      exact ⟨rfl, 0, rfl⟩
  · go_enter Tryz.func42, Tryz.ntmps42
    go_wp2_with fail
    go_loopg [8] hs.length (fun m x wr => ∃ k : Nat, m = hs.length - k ∧ k ≤ hs.length ∧ x = .int .i64 (k : Int) ∧ (∃ n, wr = w.drewN n) ∧ Hid (twiH [] hs = twiH (hs.take k) (hs.drop k)))
    case atStart => exact ⟨0, rfl, Nat.zero_le _, rfl, ⟨0, rfl⟩, rfl⟩
    case round =>
      obtain ⟨k, rfl, hk, rfl, ⟨n, rfl⟩, HL⟩ := hrel
      by_cases hlt : k < hs.length
      · have hlt' : (k : Int) < (hs.length : Int) := by omega
        have HS := HL.out
        rw [twi_step hlt] at HS
        have HS2 : Hid _ := HS
        clear HS HL
        have lk := hcell k hlt 0 (by omega)
        have lk7 := hcell k hlt 8 (by omega)
        simp [hvC] at lk lk7
        have HCL : Hid _ := hcell
        clear hcell
        go_wp2_with fail
        go_loopg [5] k (fun m x wr => ∃ q : Nat, m = k - q ∧ q ≤ k ∧ x = .int .i64 (q : Int) ∧ (∃ n, wr = w.drewN n) ∧ Hid (∀ r, r < q → ∀ (hr : r < hs.length), (hs[r].name == hs[k].name) = false))
        case atStart => exact ⟨0, rfl, Nat.zero_le _, rfl, ⟨n, rfl⟩, fun r hr => by omega⟩
        case round =>
          obtain ⟨q, rfl, hq, rfl, ⟨n2, rfl⟩, HN⟩ := hrel
          by_cases hqk : q < k
          · have hqk' : (q : Int) < (k : Int) := by omega
            have lq := HCL.out q (by omega) 0 (by omega)
            simp [hvC] at lq
            have hq1 : (q : Int) < (hs.length : Int) := by omega
            have hb2 : ((bs hs[q].name).toList == (bs hs[k].name).toList) = (hs[q].name == hs[k].name) := by rw [bs_toList, bs_toList]
            cases he : (hs[q].name == hs[k].name) with
            | true =>
              rw [he] at hb2
              have HF : Hid (twiH [] hs = (hs[k].nameAt, true)) := by show _ = _; rw [HS2.out, if_pos (any_take hqk hlt he)]
              clear he HS2
              go_wp2_with fail
              go_quiet (fail)
              go_wp2_with fail
              go_ret2
              rw [HF.out]
              exact ⟨rfl, _, rfl⟩
            | false =>
              rw [he] at hb2
              have HN2 : Hid (∀ r, r < q + 1 → ∀ (hr : r < hs.length), (hs[r].name == hs[k].name) = false) := by
                intro r hr hr2
                by_cases e : r = q
                · subst e; exact he
                · exact HN.out r (by omega) hr2
              clear he HN
              go_wp2_with fail
              go_quiet (fail)
              go_wp2_with fail
              go_roundg (k - (q + 1))
              case measure => omega
              case rel => exact ⟨q + 1, rfl, hqk, by go_num, ⟨_, rfl⟩, HN2⟩
          · have hqk' : decide ((q : Int) < (k : Int)) = false := by simp; omega
            have HF : Hid (twiH [] hs = twiH (hs.take (k + 1)) (hs.drop (k + 1))) := by
              show _ = _
              rw [HS2.out, if_neg (by rw [any_take_no hlt (fun r hr hr2 => HN.out r (by omega) hr2)]; decide)]
            clear HS2 HN
            go_wp2_with fail
            go_roundg (hs.length - (k + 1))
            case measure => omega
            case rel => exact ⟨k + 1, rfl, hlt, by go_num, ⟨_, rfl⟩, HF⟩
      · have hlt' : decide ((k : Int) < (hs.length : Int)) = false := by simp; omega
        have HF : Hid (twiH [] hs = (0, false)) := by show _ = _; rw [HL.out, List.drop_eq_nil_of_le (by omega)]; rfl
        clear HL hcell
        go_wp2_with fail
        go_ret2
        rw [HF.out]
        exact ⟨rfl, _, rfl⟩

end Go.Proofs.YtanknpmojblmcaaGreatDoor
