/-
  Package pool: where a job fits; the earliest such time.
-/
import Derived.Test.YtanknpmojblmcabPlB
import Derived.Test.YtanknpmojblmcabPlC
set_option linter.unusedSimpArgs false
set_option linter.unusedVariables false
namespace Go.Proofs.Ytanknpmojblmcab
open Go.RowKit

def fitsN (js : List PJ) (nodes id : Nat) (t : Int) : Nat → Bool
  | 0 => true
  | n + 1 => fitsN js nodes id t n && decide (loadF js id (t + (n : Int)) ≤ nodes)
def fitsF (js : List PJ) (nodes id : Nat) (t : Int) : Bool := fitsN js nodes id t (js.getD id pj0).tm
theorem fitsN_false {js : List PJ} {nodes id : Nat} {t : Int} {n : Nat} (h : fitsN js nodes id t n = false) : ∀ k, n ≤ k → fitsN js nodes id t k = false := by
  intro k hk
  induction hk with
  | refl => exact h
  | step _ ih => unfold fitsN; rw [ih]; rfl

set_option maxRecDepth 100000 in
set_option maxHeartbeats 1000000 in
theorem plFits (s : Nat) (gv : Value) (nodes : Nat) (now : Int) (jv qv : Value) (js : List PJ) (id : Nat) (t : Int) (w : World) (hP : Pl s gv nodes now jv qv w) (hJ : Ps jv js w) (hl : js.length ≤ 1000) (hok : ∀ j ∈ js, PjOK j) (hid : id < js.length) (hn8 : nodes ≤ 8) (t1 : 0 ≤ t) (t2 : t ≤ 50000) :
    Calls Try.prog 69 #[.pointer (some ⟨s, 1, none⟩), .int .i64 (id : Int), .int .i64 t] w fun e w' => e = .returned (.bool (fitsF js nodes id t)) ∧ Below w.heap.size w w' := by
  have HJ : Hid (Ps jv js w) := hJ
  have HP : Hid (Pl s gv nodes now jv qv w) := hP
  have HI : Hid (js.getD id pj0 = js[id]) := by show _ = _; simp [hid]
  have hgI := hok _ (List.getElem_mem hid)
  have ht12 := hgI.tm
  unfold fitsF
  rw [HI.out]
  obtain ⟨a, c, rfl⟩ := hJ.form
  have c1 := hP.c 1; have c3 := hP.c 3
  simp at c1 c3
  have hidI : (id : Int) < (js.length : Int) := by omega
  rcases hJ with ⟨_, rfl⟩ | ⟨b, cap, hv, hcap, hb, hcell⟩
  · simp at hid
  cases hv
  have n3 := hcell id hid 3 (by omega)
  simp [pjC] at n3
  have HOK : Hid (∀ j ∈ js, PjOK j) := hok
  clear hok hcell
  generalize js[id].tm = tm at *
  go_enter Try.func69, Try.ntmps69
  go_wp2_with fail
  go_loopg [7] (tm + 1) (fun r x wr => ∃ (n : Nat) (wz : World), wz = wr ∧ n ≤ tm ∧ r = tm - n + 1 ∧ x = .int .i64 (t + (n : Int)) ∧ Hid (fitsN js nodes id t n = true) ∧ Below w.heap.size w wz)
  case atStart => exact ⟨0, _, rfl, Nat.zero_le _, rfl, by simp, rfl, Below.refl _ _⟩
  case round =>
    obtain ⟨n, wz, rfl, hn, rfl, rfl, HT, hB⟩ := hrel
    have c1' := (hB.cell (p := ⟨s, 1, none⟩) HP.out.lt).trans c1
    have c3' := (hB.cell (p := ⟨s, 3, none⟩) HP.out.lt).trans c3
    have n3' := (hB.cell (p := ⟨b, id * 6 + 3, none⟩) hb).trans n3
    by_cases hlt : n < tm
    · have hlt' : t + (n : Int) < t + (tm : Int) := by omega
      clear n3 c3 c1
      go_wp2_with fail
      have hD : Below w.heap.size w wz.drew := hB.drew
      go_region_with (go_at_call 79; refine (plWanted s gv nodes now _ qv js id (t + (n : Int)) _ (HP.out.below hD) (HJ.out.below hD) hl hid HOK.out (by omega) (by omega)).mono ?_; rintro e x3 ⟨rfl, hX3⟩; have c1'' := (hX3.cell (p := ⟨s, 1, none⟩) (Nat.lt_of_lt_of_le HP.out.lt hB.size)).trans c1'; have hB3 := hD.trans (hX3.mono hD.size); clear hX3)
      all_goals clear c1' c3' n3'
      all_goals
        by_cases hw : loadF js id (t + (n : Int)) ≤ nodes
        · have hw' : ¬ (nodes : Int) < (loadF js id (t + (n : Int)) : Int) := by omega
          have HW : Hid (fitsN js nodes id t (n + 1) = true) := by
            show fitsN js nodes id t (n + 1) = true
            unfold fitsN
            rw [HT.out]; simpa using hw
          clear hw
          generalize loadF js id (t + (n : Int)) = wn at *
          go_wp2_with fail
          go_roundg (tm - (n + 1) + 1)
          case measure => omega
          case rel => exact ⟨n + 1, _, rfl, by omega, rfl, by go_num, HW, hB3⟩
        · have hw' : (nodes : Int) < (loadF js id (t + (n : Int)) : Int) := by omega
          have HW : Hid (fitsN js nodes id t tm = false) := by
            refine fitsN_false (n := n + 1) ?_ tm (by omega)
            unfold fitsN
            simp [hw]
          clear hw
          generalize loadF js id (t + (n : Int)) = wn at *
          go_wp2_with fail
          go_ret
          exact ⟨by rw [HW.out]; rfl, hB3⟩
    · have hlt' : ¬ t + (n : Int) < t + (tm : Int) := by omega
      have HN : Hid (n = tm) := (show n = tm by omega)
      clear n3 c3 c1
      have HW : Hid (fitsN js nodes id t tm = true) := by
        have := HT.out; rw [HN.out] at this; exact this
      go_wp2_with fail
      go_ret
      exact ⟨by rw [HW.out]; rfl, hB⟩

/-- The first time from t on, below last, at which it fits; else last. -/
def earlN (js : List PJ) (nodes id : Nat) (last : Int) : Nat → Int → Int
  | 0, t => t
  | f + 1, t => if t < last ∧ fitsF js nodes id t = false then earlN js nodes id last f (t + 1) else t
def earlF (js : List PJ) (nodes id : Nat) (now : Int) : Int := earlN js nodes id (allF now js) (allF now js - now).toNat now

set_option maxRecDepth 100000 in
set_option maxHeartbeats 1000000 in
theorem plEarliest (s : Nat) (gv : Value) (nodes : Nat) (now : Int) (jv qv : Value) (js : List PJ) (id : Nat) (w : World) (hP : Pl s gv nodes now jv qv w) (hJ : Ps jv js w) (hl : js.length ≤ 1000) (hok : ∀ j ∈ js, PjOK j) (hid : id < js.length) (hn8 : nodes ≤ 8) (n1 : 0 ≤ now) (n2 : now ≤ 5000) :
    Calls Try.prog 60 #[.pointer (some ⟨s, 1, none⟩), .int .i64 (id : Int)] w fun e w' => e = .returned (.int .i64 (earlF js nodes id now)) ∧ Below w.heap.size w w' := by
  have HL := allN_le now js hok n1 n2 js.length
  have HOK : Hid (∀ j ∈ js, PjOK j) := hok
  have c2 := hP.c 2
  simp at c2
  clear hok
  go_enter Try.func60, Try.ntmps60
  go_wp2_with fail
  refine (plAllOver s gv nodes now jv qv js w hP hJ hl HOK.out n1 n2).mono ?_
  rintro e x1 ⟨rfl, hX1⟩
  have HP : Hid (Pl s gv nodes now jv qv x1) := hP.below hX1
  have HJ : Hid (Ps jv js x1) := hJ.below hX1
  have c2' := (hX1.cell (p := ⟨s, 2, none⟩) hP.lt).trans c2
  clear c2 hJ hP
  obtain ⟨last, hlast⟩ : ∃ last, last = allF now js := ⟨_, rfl⟩
  change now ≤ allF now js ∧ allF now js ≤ 10012 at HL
  have HE : Hid (earlF js nodes id now = earlN js nodes id last (last - now).toNat now) := by show _ = _; rw [hlast]; rfl
  rw [← hlast] at HL ⊢
  clear hlast
  obtain ⟨hL1, hL2⟩ := HL
  go_wp2_with fail
  have HEB : Hid (∀ t : Int, now ≤ t → t ≤ last → earlN js nodes id last (last - t).toNat t = (if t < last ∧ fitsF js nodes id t = false then earlN js nodes id last (last - (t + 1)).toNat (t + 1) else t)) := by
    intro t q1 q2
    by_cases hq : t < last
    · have e : (last - t).toNat = (last - (t + 1)).toNat + 1 := by omega
      rw [e]; rfl
    · have e : (last - t).toNat = 0 := by omega
      rw [e, if_neg (by rintro ⟨q, _⟩; omega)]; rfl
  go_loopg [6] ((last - now).toNat + 1) (fun r x wr => ∃ (t : Int) (wz : World), wz = wr ∧ now ≤ t ∧ t ≤ last ∧ r = (last - t).toNat + 1 ∧ x = .int .i64 t ∧ Hid (earlF js nodes id now = earlN js nodes id last (last - t).toNat t) ∧ Below x1.heap.size x1 wz)
  case atStart => exact ⟨now, _, rfl, by omega, hL1, rfl, rfl, HE, Below.refl _ _⟩
  case round =>
    obtain ⟨t, wz, rfl, ht1, ht2, rfl, rfl, HT, hB⟩ := hrel
    have HD : Hid (Below w.heap.size w wz) := hX1.trans (hB.mono hX1.size)
    by_cases hlt : t < last
    · have hlt' : decide (t < last) = true := by simpa using hlt
      go_wp2_with fail
      refine (plFits s gv nodes now jv qv js id t _ (HP.out.below hB) (HJ.out.below hB) hl HOK.out hid hn8 (by omega) (by omega)).mono ?_
      rintro e x3 ⟨rfl, hX3⟩
      have HD3 : Hid (Below w.heap.size w x3) := HD.out.trans (hX3.mono HD.out.size)
      have HB3 : Hid (Below x1.heap.size x1 x3) := hB.trans (hX3.mono hB.size)
      clear hX3
      cases hf : fitsF js nodes id t with
      | false =>
        go_wp2_with fail
        go_roundg ((last - (t + 1)).toNat + 1)
        case measure => omega
        case rel => exact ⟨t + 1, _, rfl, by omega, by omega, rfl, by go_num, by show _ = _; rw [HT.out, HEB.out t ht1 ht2, if_pos ⟨hlt, hf⟩], HB3.out⟩
      | true =>
        go_wp2_with fail
        go_ret
        exact ⟨by rw [HT.out, HEB.out t ht1 ht2, if_neg (by rw [hf]; simp)]; rfl, HD3.out⟩
    · have hlt' : decide (t < last) = false := by simpa using hlt
      go_wp2_with fail
      go_ret
      exact ⟨by rw [HT.out, HEB.out t ht1 ht2, if_neg (by rintro ⟨q, _⟩; omega)]; rfl, HD.out⟩
end Go.Proofs.Ytanknpmojblmcab
