/-
  Package link: the groups of a system, and the last group of a name.
-/
import Derived.Test.YtanknpmojblmcaaGreatDoorName
set_option linter.unusedSimpArgs false
set_option linter.unusedVariables false
namespace Go.Proofs.YtanknpmojblmcaaGreatDoor
open Go.RowKit

/-- A group: its name, whether it has an array, that array's first number, its first job, how many. -/
structure GV where
  name : List UInt8
  arr : Bool
  lo : Nat
  first : Nat
  count : Nat

def gvC (g : GV) : Array Value := #[.string (bs g.name), .bool g.arr, .int .i64 (g.lo : Int), .int .i64 (g.first : Int), .int .i64 (g.count : Int)]
def flatG (gs : List GV) : List Value := (gs.map fun h => (gvC h).toList).flatten
theorem flatG_snoc (gs : List GV) (h : GV) : flatG (gs ++ [h]) = flatG gs ++ (gvC h).toList := by simp [flatG]
theorem flatG_get (hs : List GV) : ∀ (k : Nat) (hk : k < hs.length) (j : Nat), j < 5 → (flatG hs)[k * 5 + j]? = (gvC hs[k])[j]? := by
  induction hs with
  | nil => intro k hk; simp at hk
  | cons x r ih =>
    intro k hk j hj
    have e : flatG (x :: r) = (gvC x).toList ++ flatG r := by simp [flatG]
    have hl : (gvC x).toList.length = 5 := by simp [gvC]
    rw [e]
    cases k with
    | zero => rw [List.getElem?_append_left (by omega)]; simp
    | succ k =>
      rw [List.getElem?_append_right (by omega), hl, show (k + 1) * 5 + j - 5 = k * 5 + j from by omega]
      exact ih k (by simpa using hk) j hj

/-- A list of groups, to be read alone. -/
def Gs (v : Value) (gs : List GV) (w : World) : Prop :=
  (v = .slice none 0 0 ∧ gs = []) ∨ ∃ g cap, v = .slice (some ⟨g, 0, none⟩) gs.length cap ∧ gs.length ≤ cap ∧ g < w.heap.size ∧ ∀ k, (hk : k < gs.length) → ∀ j, j < 5 → w.cell? ⟨g, k * 5 + j, none⟩ = (gvC gs[k])[j]?
theorem Gs.of {w : World} {base : Nat} {v : Value} {hs : List GV} (h : w.ownsRow base 107 5 v hs.length (flatG hs)) : Gs v hs w := by
  rcases h.2 with ⟨hv, hn⟩ | ⟨g, cap, cur, hv, h1, h2, h3, h4, h5, h6⟩
  · exact Or.inl ⟨hv, List.eq_nil_of_length_eq_zero hn⟩
  · right
    subst hv
    refine ⟨g, cap, rfl, h3, whole_lt h2, ?_⟩
    intro k hk j hj
    rw [h.cellAt (k * 5 + j) (by omega)]
    exact flatG_get hs k hk j hj
theorem Gs.below {v : Value} {gs : List GV} {w w' : World} (h : Gs v gs w) (k : Below w.heap.size w w') : Gs v gs w' := by
  rcases h with h | ⟨g, cap, hv, hc, hg, hcell⟩
  · exact Or.inl h
  · exact Or.inr ⟨g, cap, hv, hc, Nat.lt_of_lt_of_le hg k.size, fun i hi j hj => (k.cell (p := ⟨g, i * 5 + j, none⟩) hg).trans (hcell i hi j hj)⟩
theorem Gs.form {v : Value} {gs : List GV} {w : World} (h : Gs v gs w) : ∃ a c, v = .slice a gs.length c := by
  rcases h with ⟨rfl, rfl⟩ | ⟨g, cap, rfl, _⟩
  · exact ⟨_, _, rfl⟩
  · exact ⟨_, _, rfl⟩

/-- The place of the last group of a name among the first n. -/
def latN (gs : List GV) (nm : List UInt8) : Nat → Option Nat
  | 0 => none
  | n + 1 => if (gs[n]?.map (·.name)) = some nm then some n else latN gs nm n
def latI : Option Nat → Int
  | none => -1
  | some k => (k : Int)
theorem latN_lt {gs : List GV} {nm : List UInt8} : ∀ {n k : Nat}, latN gs nm n = some k → k < n ∧ gs[k]?.map (·.name) = some nm := by
  intro n
  induction n with
  | zero => intro k h; cases h
  | succ n ih =>
    intro k h
    unfold latN at h
    split at h
    · cases h; rename_i q; exact ⟨by omega, q⟩
    · have := ih h; exact ⟨by omega, this.2⟩

theorem lbs_toList (l : List UInt8) : (bs l).toList = l := by rw [ByteArray.toList_eq]; exact bs_list l

set_option maxHeartbeats 1000000 in
theorem lkLatest (v : Value) (gs : List GV) (nm : List UInt8) (w : World) (hG : Gs v gs w) (hl : gs.length ≤ 1000) :
    Calls Tryz.prog 83 #[v, .string (bs nm)] w fun e w' => e = .returned (.int .i64 (latI (latN gs nm gs.length))) ∧ Below w.heap.size w w' := by
  obtain ⟨a, c, rfl⟩ := hG.form
  go_enter Tryz.func83, Tryz.ntmps83
  go_wp2_with fail
  obtain ⟨n, hn⟩ : ∃ n, n = gs.length := ⟨_, rfl⟩
  have HN : Hid (n = gs.length) := hn
  go_loopg [5] (gs.length + 1) (fun g x wr => ∃ (k : Nat) (wz : World), wz = wr ∧ k ≤ gs.length ∧ g = k + 1 ∧ x = .int .i64 ((k : Int) - 1) ∧ Hid (latN gs nm gs.length = latN gs nm k) ∧ Below w.heap.size w wz)
  case atStart => exact ⟨gs.length, _, rfl, Nat.le_refl _, rfl, rfl, (show _ = _ from rfl), Below.refl _ _⟩
  case round =>
    obtain ⟨k, wz, rfl, hk, rfl, rfl, HL, hw⟩ := hrel
    cases k with
    | zero =>
      go_wp2_with fail
      go_ret
      exact ⟨by rw [HL.out]; rfl, hw⟩
    | succ k =>
      have hge : (0 : Int) ≤ (((k + 1 : Nat) : Int) - 1) := by omega
      rcases hG with ⟨_, rfl⟩ | ⟨g, cap, hv, hc, hg, hcell⟩
      · simp at hk
      · cases hv
        have hlt : k < gs.length := by omega
        have lk := (hw.cell (p := ⟨g, k * 5, none⟩) hg).trans (hcell k hlt 0 (by omega))
        simp [gvC] at lk
        have hb2 : ((bs gs[k].name).toList == (bs nm).toList) = (gs[k].name == nm) := by rw [lbs_toList, lbs_toList]
        have HM : Hid (gs[k]? = some gs[k]) := by show _ = _; simp [hlt]
        cases he : (gs[k].name == nm) with
        | true =>
          rw [he] at hb2
          have HE : Hid (gs[k].name = nm) := by show _ = _; simpa using he
          clear he hn
          go_wp2_with fail
          go_ret
          refine ⟨ret_int ?_, hw⟩
          rw [HL.out]
          unfold latN
          rw [HM.out, if_pos (by simp [HE.out])]
          show _ = ((k : Nat) : Int)
          omega
        | false =>
          rw [he] at hb2
          have HE : Hid (¬ gs[k].name = nm) := by show ¬ _; simpa using he
          clear he hn
          go_wp2_with fail
          go_roundg (k + 1)
          case measure => omega
          case rel =>
            refine ⟨k, _, rfl, by omega, rfl, by go_num, ?_, hw⟩
            show _ = _
            rw [HL.out]
            conv => lhs; unfold latN
            rw [HM.out, if_neg (by simp [HE.out])]

end Go.Proofs.YtanknpmojblmcaaGreatDoor
