/-
  The document's answer: Read.
-/
import Derived.Test.YtanknpmojblmcaaRefI
set_option linter.unusedSimpArgs false
set_option linter.unusedVariables false
namespace Go.Proofs.Ytanknpmojblmcaa
open Go.RowKit

/-- The first place of a number that may not be; none: there is none. -/
def limF : List RV → Option Int
  | [] => none
  | h :: r => if 0 ≤ limI h then some (limI h) else limF r
def twiR (before : List RV) : List RV → Option Int
  | [] => none
  | h :: r => if before.any (fun g => g.name == h.name) then some h.nameAt else twiR (before ++ [h]) r
def refR2 (hs : List RV) : List RV × (Nat × Int) :=
  match limF hs with
  | some a => ([], (3, a))
  | none => match twiR [] hs with
    | some a => ([], (4, a))
    | none => (hs, (0, 0))
def refR (L : List UInt8) (f : Nat) : List RV × (Nat × Int) :=
  if L.length > 600 then ([], (1, 0))
  else match placeO st0 L 0 with
    | some i => ([], (2, (i : Int)))
    | none => refR2 (rhds L f)

theorem flatR_len (hs : List RV) : (flatR hs).length = hs.length * 13 := by
  induction hs with
  | nil => rfl
  | cons h r ih =>
    have : flatR (h :: r) = (rvC h).toList ++ flatR r := rfl
    rw [this, List.length_append, ih]
    simp [rvC]; omega
theorem flatR_get (hs : List RV) : ∀ (k : Nat) (hk : k < hs.length) (j : Nat), j < 13 → (flatR hs)[k * 13 + j]? = (rvC hs[k])[j]? := by
  induction hs with
  | nil => intro k hk; simp at hk
  | cons h r ih =>
    intro k hk j hj
    have e : flatR (h :: r) = (rvC h).toList ++ flatR r := rfl
    have hl : (rvC h).toList.length = 13 := by simp [rvC]
    rw [e]
    cases k with
    | zero => rw [List.getElem?_append_left (by omega)]; simp
    | succ k =>
      rw [List.getElem?_append_right (by omega), hl, show (k + 1) * 13 + j - 13 = k * 13 + j from by omega, ih k (by simpa using hk) j hj]
      simp
/-- A slice of the document's heads that can be read. -/
def Rs (v : Value) (hs : List RV) (w : World) : Prop :=
  (v = .slice none 0 0 ∧ hs = []) ∨ ∃ g cap, v = .slice (some ⟨g, 0, none⟩) hs.length cap ∧ hs.length ≤ cap ∧ g < w.heap.size ∧ ∀ k, (hk : k < hs.length) → ∀ j, j < 13 → w.cell? ⟨g, k * 13 + j, none⟩ = (rvC hs[k])[j]?
theorem Rs.of {w : World} {base : Nat} {v : Value} {hs : List RV} (h : w.ownsRow base 39 13 v hs.length (flatR hs)) : Rs v hs w := by
  rcases h.2 with ⟨hv, hn⟩ | ⟨g, cap, cur, hv, h1, h2, h3, h4, h5, h6⟩
  · exact Or.inl ⟨hv, List.eq_nil_of_length_eq_zero hn⟩
  · right
    subst hv
    refine ⟨g, cap, rfl, h3, whole_lt h2, ?_⟩
    intro k hk j hj
    rw [h.cellAt (k * 13 + j) (by omega)]
    exact flatR_get hs k hk j hj

theorem limF_yes {hs : List RV} {k : Nat} (hk : k < hs.length) (h : 0 ≤ limI hs[k]) : limF (hs.drop k) = some (limI hs[k]) := by
  rw [List.drop_eq_getElem_cons hk, limF, if_pos h]
theorem limF_no {hs : List RV} {k : Nat} (hk : k < hs.length) (h : ¬ 0 ≤ limI hs[k]) : limF (hs.drop k) = limF (hs.drop (k + 1)) := by
  rw [List.drop_eq_getElem_cons hk, limF, if_neg h]
theorem twiR_step {hs : List RV} {k : Nat} (hk : k < hs.length) : twiR (hs.take k) (hs.drop k) = if (hs.take k).any (fun g => g.name == hs[k].name) then some hs[k].nameAt else twiR (hs.take (k + 1)) (hs.drop (k + 1)) := by
  rw [List.drop_eq_getElem_cons hk]
  conv => lhs; unfold twiR
  rw [List.take_succ_eq_append_getElem hk]
theorem any_takeR {hs : List RV} {k q : Nat} (hq : q < k) (hk : k < hs.length) (h : (hs[q].name == hs[k].name) = true) : (hs.take k).any (fun g => g.name == hs[k].name) = true := by
  rw [List.any_eq_true]
  exact ⟨hs[q], by rw [List.mem_take_iff_getElem]; exact ⟨q, by omega, rfl⟩, h⟩
theorem any_takeR_no {hs : List RV} {k : Nat} (hk : k < hs.length) (h : ∀ r, r < k → ∀ (hr : r < hs.length), (hs[r].name == hs[k].name) = false) : (hs.take k).any (fun g => g.name == hs[k].name) = false := by
  rw [List.any_eq_false]
  intro x hx
  rw [List.mem_take_iff_getElem] at hx
  obtain ⟨r, hr, rfl⟩ := hx
  rw [h r (by omega) (by omega)]; decide

set_option maxHeartbeats 8000000 in
theorem refRead_any (T : ByteArray) (f : Nat) (w : World) (hT : T.size ≤ maxLen) (hok : T.size ≤ 600 → placeO st0 T.data.toList 0 = none → HeadsOK T.data.toList f ∧ (∀ x ∈ rhds T.data.toList f, RSmall x) ∧ (rhds T.data.toList f).length ≤ 700) :
    Calls Try.prog 8 #[.string T] w fun e w' => ∃ v, e = .returned (.tuple #[v, .int .i64 ((refR T.data.toList f).2.1 : Int), .int .i64 (refR T.data.toList f).2.2]) ∧ w'.ownsRow w.heap.size 39 13 v (refR T.data.toList f).1.length (flatR (refR T.data.toList f).1) ∧ Below w.heap.size w w' := by
  have hlen : T.data.toList.length = T.size := by simp
  unfold maxLen at hT
  by_cases hbig : 600 < T.size
  · have hb' : (600 : Int) < (T.size : Int) := by omega
    have HR : Hid (refR T.data.toList f = ([], (1, 0))) := by show _ = _; unfold refR; rw [if_pos (by omega)]
    clear hlen hok
    go_enter Try.func8, Try.ntmps8
    go_wp2_with fail
    go_ret3
    rw [HR.out]
    exact ⟨_, rfl, World.ownsRow_nil _ _ _ _, Below.refl _ _⟩
  · have hb' : ¬ (600 : Int) < (T.size : Int) := by omega
    have hT6 : T.size ≤ 600 := by omega
    replace hok := hok hT6
    cases hp : placeO st0 T.data.toList 0 with
    | some i =>
      have HR : Hid (refR T.data.toList f = ([], (2, (i : Int)))) := by show _ = _; unfold refR; rw [if_neg (by omega), hp]
      have HP : Hid (oi (placeO st0 T.data.toList 0) = (i : Int)) := by show _ = _; rw [hp]; rfl
      have hi0 : (0 : Int) ≤ (i : Int) := by omega
      clear hp hok hlen
      go_enter Try.func8, Try.ntmps8
      go_wp2_with fail
      refine (Place_any T _ hT6).mono ?_
      rintro e w1 ⟨he, hB1⟩
      rw [HP.out] at he
      subst he
      go_wp2_with fail
      go_ret3
      rw [HR.out]
      exact ⟨_, rfl, World.ownsRow_nil _ _ _ _, hB1⟩
    | none =>
      have HR : Hid (refR T.data.toList f = refR2 (rhds T.data.toList f)) := by show _ = _; unfold refR; rw [if_neg (by omega), hp]
      have HP : Hid (oi (placeO st0 T.data.toList 0) = -1) := by show _ = _; rw [hp]; rfl
      obtain ⟨hok1, hsm, hln⟩ := hok hp
      have HOK : Hid _ := hok1
      have HSM : Hid _ := hsm
      clear hp hok hlen hok1 hsm
      go_enter Try.func8, Try.ntmps8
      go_wp2_with fail
      refine (Place_any T _ hT6).mono ?_
      rintro e w1 ⟨he, hB1⟩
      rw [HP.out] at he
      subst he
      go_wp2_with fail
      refine (Heads_any T f _ hT6 HOK.out).mono ?_
      rintro e w2 ⟨v, rfl, hown, hB2⟩
      replace hown := ownsRow_base hown hB1.size
      replace hB2 := hB1.trans (hB2.mono hB1.size)
      generalize rhds T.data.toList f = hs at *
      rcases Rs.of hown with ⟨rfl, rfl⟩ | ⟨g, cap, rfl, hc, hg, hcell⟩
      · have HR2 : Hid (refR T.data.toList f = ([], (0, 0))) := HR
        clear HR
        go_wp2_with fail
        go_loopg [5, 7] 1 (fun m y x wr => m = 1 ∧ x = .int .i64 0 ∧ wr = w2)
        case atStart => exact ⟨rfl, rfl, rfl⟩
        case round =>
          obtain ⟨rfl, rfl, rfl⟩ := hrel
          go_wp2_with fail
          go_loopg [8] 1 (fun m x wr' => m = 1 ∧ x = .int .i64 0 ∧ wr' = wr)
          case atStart => exact ⟨rfl, rfl, rfl⟩
          case round =>
            obtain ⟨rfl, rfl, rfl⟩ := hrel
            go_wp2_with fail
            go_ret3
            rw [HR2.out]
            exact ⟨_, rfl, World.ownsRow_nil _ _ _ _, hB2⟩
      · have HCL : Hid (∀ k, (hk : k < hs.length) → ∀ j, j < 13 → w2.cell? ⟨g, k * 13 + j, none⟩ = (rvC hs[k])[j]?) := hcell
        clear hcell
        go_wp2_with fail
        go_loopg [5, 7] hs.length (fun m y x wr => ∃ k : Nat, m = hs.length - k ∧ k ≤ hs.length ∧ x = .int .i64 (k : Int) ∧ Below w2.heap.size w2 wr ∧ Hid (limF hs = limF (hs.drop k)))
        case atStart => exact ⟨0, rfl, Nat.zero_le _, rfl, Below.refl _ _, rfl⟩
        case round =>
          obtain ⟨k, rfl, hk, rfl, hB3, HLM⟩ := hrel
          by_cases hlt : k < hs.length
          · have hlt' : (k : Int) < (hs.length : Int) := by omega
            have hcl : ∀ j, j < 13 → wr.cell? ⟨g, k * 13 + j, none⟩ = (rvC hs[k])[j]? := fun j hj => (hB3.cell hg).trans (HCL.out k hlt j hj)
            have l0 := hcl 0 (by omega); have l1 := hcl 1 (by omega); have l2 := hcl 2 (by omega); have l3 := hcl 3 (by omega); have l4 := hcl 4 (by omega); have l5 := hcl 5 (by omega); have l6 := hcl 6 (by omega); have l7 := hcl 7 (by omega); have l8 := hcl 8 (by omega); have l9 := hcl 9 (by omega); have l10 := hcl 10 (by omega); have l11 := hcl 11 (by omega); have l12 := hcl 12 (by omega)
            have hsx := HSM.out hs[k] (List.getElem_mem hlt)
            have hY : ∀ h : 0 ≤ limI hs[k], limF hs = some (limI hs[k]) := fun h => HLM.out.trans (limF_yes hlt h)
            have hNo : ∀ h : ¬ 0 ≤ limI hs[k], limF hs = limF (hs.drop (k + 1)) := fun h => HLM.out.trans (limF_no hlt h)
            have HY : Hid _ := hY
            have HNo : Hid _ := hNo
            clear hcl hY hNo HLM
            generalize hs[k] = x at *
            simp [rvC] at l0 l1 l2 l3 l4 l5 l6 l7 l8 l9 l10 l11 l12
            go_wp2_with fail
            refine (limit_any x _ hsx).mono ?_
            rintro e w3 ⟨rfl, hB4⟩
            replace hB4 := hB3.trans (hB4.mono hB3.size)
            by_cases h0 : 0 ≤ limI x
            · have HR2 : Hid (refR T.data.toList f = ([], (3, limI x))) := by show _ = _; rw [HR.out]; unfold refR2; rw [HY.out h0]
              clear HY HNo HR
              generalize limI x = lx at *
              go_wp2_with fail
              go_ret3
              rw [HR2.out]
              exact ⟨_, rfl, World.ownsRow_nil _ _ _ _, hB2.trans (hB4.mono hB2.size)⟩
            · have HLM : Hid (limF hs = limF (hs.drop (k + 1))) := HNo.out (by omega)
              clear HY HNo
              have h0' : limI x < 0 := by omega
              generalize limI x = lx at *
              go_wp2_with fail
              go_roundg (hs.length - (k + 1))
              case measure => omega
              case rel => exact ⟨k + 1, rfl, hlt, by go_num, hB4, HLM⟩
          · have hlt' : decide ((k : Int) < (hs.length : Int)) = false := by simp; omega
            have HR2 : Hid (refR T.data.toList f = match twiR [] hs with | some a => ([], (4, a)) | none => (hs, (0, 0))) := by
              show _ = _
              rw [HR.out]; unfold refR2; rw [HLM.out, List.drop_eq_nil_of_le (by omega)]; rfl
            clear HLM HR
            go_wp2_with fail
            go_loopg [8] hs.length (fun m x wr' => ∃ k : Nat, m = hs.length - k ∧ k ≤ hs.length ∧ x = .int .i64 (k : Int) ∧ (∃ n, wr' = wr.drewN n) ∧ Hid (twiR [] hs = twiR (hs.take k) (hs.drop k)))
            case atStart => exact ⟨0, rfl, Nat.zero_le _, rfl, ⟨0, rfl⟩, rfl⟩
            case round =>
              obtain ⟨k, rfl, hk2, rfl, ⟨n, rfl⟩, HT⟩ := hrel
              by_cases hlt2 : k < hs.length
              · have hlt2' : (k : Int) < (hs.length : Int) := by omega
                have HS := HT.out
                rw [twiR_step hlt2] at HS
                have HS2 : Hid _ := HS
                clear HS HT
                have lk := (hB3.cell hg).trans (HCL.out k hlt2 0 (by omega))
                have lk8 := (hB3.cell hg).trans (HCL.out k hlt2 8 (by omega))
                simp [rvC] at lk lk8
                go_wp2_with fail
                go_loopg [9] k (fun m x wr' => ∃ q : Nat, m = k - q ∧ q ≤ k ∧ x = .int .i64 (q : Int) ∧ (∃ n, wr' = wr.drewN n) ∧ Hid (∀ r, r < q → ∀ (hr : r < hs.length), (hs[r].name == hs[k].name) = false))
                case atStart => exact ⟨0, rfl, Nat.zero_le _, rfl, ⟨n, rfl⟩, fun r hr => by omega⟩
                case round =>
                  obtain ⟨q, rfl, hq, rfl, ⟨n2, rfl⟩, HNN⟩ := hrel
                  by_cases hqk : q < k
                  · have hqk' : (q : Int) < (k : Int) := by omega
                    have hq0 : q < hs.length := by omega
                    have lq := (hB3.cell hg).trans (HCL.out q hq0 0 (by omega))
                    simp [rvC] at lq
                    have hq1 : (q : Int) < (hs.length : Int) := by omega
                    have hb2 : ((bs hs[q].name).toList == (bs hs[k].name).toList) = (hs[q].name == hs[k].name) := by rw [bs_toList, bs_toList]
                    cases he : (hs[q].name == hs[k].name) with
                    | true =>
                      rw [he] at hb2
                      have HF : Hid (refR T.data.toList f = ([], (4, hs[k].nameAt))) := by show _ = _; rw [HR2.out, HS2.out, if_pos (any_takeR hqk hlt2 he)]
                      clear he HS2 HR2
                      go_wp2_with fail
                      go_quiet (fail)
                      go_wp2_with fail
                      go_quiet (fail)
                      go_wp2_with fail
                      go_ret3
                      rw [HF.out]
                      refine ⟨_, rfl, World.ownsRow_nil _ _ _ _, ?_⟩
                      have hB5 := hB2.trans (hB3.mono hB2.size)
                      exact ⟨hB5.os, hB5.tape, hB5.output, hB5.size, hB5.block⟩
                    | false =>
                      rw [he] at hb2
                      have HN2 : Hid (∀ r, r < q + 1 → ∀ (hr : r < hs.length), (hs[r].name == hs[k].name) = false) := by
                        intro r hr hr2
                        by_cases e : r = q
                        · subst e; exact he
                        · exact HNN.out r (by omega) hr2
                      clear he HNN
                      go_wp2_with fail
                      go_quiet (fail)
                      go_wp2_with fail
                      go_roundg (k - (q + 1))
                      case measure => omega
                      case rel => exact ⟨q + 1, rfl, hqk, by go_num, ⟨_, rfl⟩, HN2⟩
                  · have hqk' : decide ((q : Int) < (k : Int)) = false := by simp; omega
                    have HF : Hid (twiR [] hs = twiR (hs.take (k + 1)) (hs.drop (k + 1))) := by
                      show _ = _
                      rw [HS2.out, if_neg (by rw [any_takeR_no hlt2 (fun r hr hr2 => HNN.out r (by omega) hr2)]; decide)]
                    clear HS2 HNN
                    go_wp2_with fail
                    go_roundg (hs.length - (k + 1))
                    case measure => omega
                    case rel => exact ⟨k + 1, rfl, hlt2, by go_num, ⟨_, rfl⟩, HF⟩
              · have hlt2' : decide ((k : Int) < (hs.length : Int)) = false := by simp; omega
                have HF : Hid (refR T.data.toList f = (hs, (0, 0))) := by show _ = _; rw [HR2.out, HT.out, List.drop_eq_nil_of_le (by omega)]; rfl
                clear HT HR2
                go_wp2_with fail
                go_ret3
                rw [HF.out]
                have hB5 := hB2.trans (hB3.mono hB2.size)
                have hown5 := owns_below hown hB3
                exact ⟨_, rfl, hown5, ⟨hB5.os, hB5.tape, hB5.output, hB5.size, hB5.block⟩⟩

end Go.Proofs.Ytanknpmojblmcaa
