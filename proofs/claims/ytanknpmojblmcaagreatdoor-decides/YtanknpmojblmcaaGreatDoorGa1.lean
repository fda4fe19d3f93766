/-
  PlE PlF LkK LkL LkM LkN XSpec XVal XMach, put together.
-/
import Derived.Test.YtanknpmojblmcaaGreatDoorPlB
import Derived.Test.YtanknpmojblmcaaGreatDoorPlC
import Derived.Test.YtanknpmojblmcaaGreatDoorPlD
import Derived.Test.YtanknpmojblmcaaGreatDoorLkJ
import Derived.OwnWalk
import Derived.Test.YtanknpmojblmcaaGreatDoorWld
import Derived.Deep.RegionHeld3
import Derived.Deep.AppendLies
import Derived.Deep.RegionLaw
import Derived.Deep.DrawnRows
/-
  Package pool: where a job fits; the earliest such time.
-/
set_option linter.unusedSimpArgs false
set_option linter.unusedVariables false
namespace Go.Proofs.YtanknpmojblmcaaGreatDoor
open Go.RowKit

def fitsN (js : List PJ) (nodes id : Nat) (t : Int) : Nat → Bool
  | 0 => true
  | n + 1 => fitsN js nodes id t n && decide (loadF js id (t + (n : Int)) ≤ nodes)
def fitsF (js : List PJ) (nodes id : Nat) (t : Int) : Bool := fitsN js nodes id t (js.getD id pj0).tm
theorem fitsN_false {js : List PJ} {nodes id : Nat} {t : Int} {n : Nat} (h : fitsN js nodes id t n = false) : ∀ k, n ≤ k → fitsN js nodes id t k = false := by
  intro k hk
  induction hk with
  | refl => exact h
  | step _ ih => unfold fitsN; rw [ih]; rfl

set_option maxRecDepth 100000 in
set_option maxHeartbeats 1000000 in
theorem plFits (s : Nat) (gv : Value) (nodes : Nat) (now : Int) (jv qv : Value) (js : List PJ) (id : Nat) (t : Int) (w : World) (hP : Pl s gv nodes now jv qv w) (hJ : Ps jv js w) (hl : js.length ≤ 1000) (hok : ∀ j ∈ js, PjOK j) (hid : id < js.length) (hn8 : nodes ≤ 8) (t1 : 0 ≤ t) (t2 : t ≤ 50000) :
    Calls Tryz.prog 118 #[.pointer (some ⟨s, 1, none⟩), .int .i64 (id : Int), .int .i64 t] w fun e w' => e = .returned (.bool (fitsF js nodes id t)) ∧ Below w.heap.size w w' := by
  have HJ : Hid (Ps jv js w) := hJ
  have HP : Hid (Pl s gv nodes now jv qv w) := hP
  have HI : Hid (js.getD id pj0 = js[id]) := by show _ = _; simp [hid]
  have hgI := hok _ (List.getElem_mem hid)
  have ht12 := hgI.tm
  unfold fitsF
  rw [HI.out]
  obtain ⟨a, c, rfl⟩ := hJ.form
  have c1 := hP.c 1; have c3 := hP.c 3
  simp at c1 c3
  have hidI : (id : Int) < (js.length : Int) := by omega
  rcases hJ with ⟨_, rfl⟩ | ⟨b, cap, hv, hcap, hb, hcell⟩
  · simp at hid
  cases hv
  have n3 := hcell id hid 3 (by omega)
  simp [pjC] at n3
  have HOK : Hid (∀ j ∈ js, PjOK j) := hok
  clear hok hcell
  generalize js[id].tm = tm at *
  go_enter Tryz.func118, Tryz.ntmps118
  go_wp2_with fail
  go_loopg [7] (tm + 1) (fun r x wr => ∃ (n : Nat) (wz : World), wz = wr ∧ n ≤ tm ∧ r = tm - n + 1 ∧ x = .int .i64 (t + (n : Int)) ∧ Hid (fitsN js nodes id t n = true) ∧ Below w.heap.size w wz)
  case atStart => exact ⟨0, _, rfl, Nat.zero_le _, rfl, by simp, rfl, Below.refl _ _⟩
  case round =>
    obtain ⟨n, wz, rfl, hn, rfl, rfl, HT, hB⟩ := hrel
    have c1' := (hB.cell (p := ⟨s, 1, none⟩) HP.out.lt).trans c1
    have c3' := (hB.cell (p := ⟨s, 3, none⟩) HP.out.lt).trans c3
    have n3' := (hB.cell (p := ⟨b, id * 6 + 3, none⟩) hb).trans n3
    by_cases hlt : n < tm
    · have hlt' : t + (n : Int) < t + (tm : Int) := by omega
      clear n3 c3 c1
      go_wp2_with fail
      have hD : Below w.heap.size w wz.drew := hB.drew
      go_region_with (go_at_call 135; refine (plWanted s gv nodes now _ qv js id (t + (n : Int)) _ (HP.out.below hD) (HJ.out.below hD) hl hid HOK.out (by omega) (by omega)).mono ?_; rintro e x3 ⟨rfl, hX3⟩; have c1'' := (hX3.cell (p := ⟨s, 1, none⟩) (Nat.lt_of_lt_of_le HP.out.lt hB.size)).trans c1'; have hB3 := hD.trans (hX3.mono hD.size); clear hX3)
      all_goals clear c1' c3' n3'
      all_goals
        by_cases hw : loadF js id (t + (n : Int)) ≤ nodes
        · have hw' : ¬ (nodes : Int) < (loadF js id (t + (n : Int)) : Int) := by omega
          have HW : Hid (fitsN js nodes id t (n + 1) = true) := by
            show fitsN js nodes id t (n + 1) = true
            unfold fitsN
            rw [HT.out]; simpa using hw
          clear hw
          generalize loadF js id (t + (n : Int)) = wn at *
          go_wp2_with fail
          go_roundg (tm - (n + 1) + 1)
          case measure => omega
          case rel => exact ⟨n + 1, _, rfl, by omega, rfl, by go_num, HW, hB3⟩
        · have hw' : (nodes : Int) < (loadF js id (t + (n : Int)) : Int) := by omega
          have HW : Hid (fitsN js nodes id t tm = false) := by
            refine fitsN_false (n := n + 1) ?_ tm (by omega)
            unfold fitsN
            simp [hw]
          clear hw
          generalize loadF js id (t + (n : Int)) = wn at *
          go_wp2_with fail
          go_ret
          exact ⟨by rw [HW.out]; rfl, hB3⟩
    · have hlt' : ¬ t + (n : Int) < t + (tm : Int) := by omega
      have HN : Hid (n = tm) := (show n = tm by omega)
      clear n3 c3 c1
      have HW : Hid (fitsN js nodes id t tm = true) := by
        have := HT.out; rw [HN.out] at this; exact this
      go_wp2_with fail
      go_ret
      exact ⟨by rw [HW.out]; rfl, hB⟩

/-- The first time from t on, below last, at which it fits; else last. -/
def earlN (js : List PJ) (nodes id : Nat) (last : Int) : Nat → Int → Int
  | 0, t => t
  | f + 1, t => if t < last ∧ fitsF js nodes id t = false then earlN js nodes id last f (t + 1) else t
def earlF (js : List PJ) (nodes id : Nat) (now : Int) : Int := earlN js nodes id (allF now js) (allF now js - now).toNat now

set_option maxRecDepth 100000 in
set_option maxHeartbeats 1000000 in
theorem plEarliest (s : Nat) (gv : Value) (nodes : Nat) (now : Int) (jv qv : Value) (js : List PJ) (id : Nat) (w : World) (hP : Pl s gv nodes now jv qv w) (hJ : Ps jv js w) (hl : js.length ≤ 1000) (hok : ∀ j ∈ js, PjOK j) (hid : id < js.length) (hn8 : nodes ≤ 8) (n1 : 0 ≤ now) (n2 : now ≤ 5000) :
    Calls Tryz.prog 93 #[.pointer (some ⟨s, 1, none⟩), .int .i64 (id : Int)] w fun e w' => e = .returned (.int .i64 (earlF js nodes id now)) ∧ Below w.heap.size w w' := by
  have HL := allN_le now js hok n1 n2 js.length
  have HOK : Hid (∀ j ∈ js, PjOK j) := hok
  have c2 := hP.c 2
  simp at c2
  clear hok
  go_enter Tryz.func93, Tryz.ntmps93
  go_wp2_with fail
  refine (plAllOver s gv nodes now jv qv js w hP hJ hl HOK.out n1 n2).mono ?_
  rintro e x1 ⟨rfl, hX1⟩
  have HP : Hid (Pl s gv nodes now jv qv x1) := hP.below hX1
  have HJ : Hid (Ps jv js x1) := hJ.below hX1
  have c2' := (hX1.cell (p := ⟨s, 2, none⟩) hP.lt).trans c2
  clear c2 hJ hP
  obtain ⟨last, hlast⟩ : ∃ last, last = allF now js := ⟨_, rfl⟩
  change now ≤ allF now js ∧ allF now js ≤ 10012 at HL
  have HE : Hid (earlF js nodes id now = earlN js nodes id last (last - now).toNat now) := by show _ = _; rw [hlast]; rfl
  rw [← hlast] at HL ⊢
  clear hlast
  obtain ⟨hL1, hL2⟩ := HL
  go_wp2_with fail
  have HEB : Hid (∀ t : Int, now ≤ t → t ≤ last → earlN js nodes id last (last - t).toNat t = (if t < last ∧ fitsF js nodes id t = false then earlN js nodes id last (last - (t + 1)).toNat (t + 1) else t)) := by
    intro t q1 q2
    by_cases hq : t < last
    · have e : (last - t).toNat = (last - (t + 1)).toNat + 1 := by omega
      rw [e]; rfl
    · have e : (last - t).toNat = 0 := by omega
      rw [e, if_neg (by rintro ⟨q, _⟩; omega)]; rfl
  go_loopg [6] ((last - now).toNat + 1) (fun r x wr => ∃ (t : Int) (wz : World), wz = wr ∧ now ≤ t ∧ t ≤ last ∧ r = (last - t).toNat + 1 ∧ x = .int .i64 t ∧ Hid (earlF js nodes id now = earlN js nodes id last (last - t).toNat t) ∧ Below x1.heap.size x1 wz)
  case atStart => exact ⟨now, _, rfl, by omega, hL1, rfl, rfl, HE, Below.refl _ _⟩
  case round =>
    obtain ⟨t, wz, rfl, ht1, ht2, rfl, rfl, HT, hB⟩ := hrel
    have HD : Hid (Below w.heap.size w wz) := hX1.trans (hB.mono hX1.size)
    by_cases hlt : t < last
    · have hlt' : decide (t < last) = true := by simpa using hlt
      go_wp2_with fail
      refine (plFits s gv nodes now jv qv js id t _ (HP.out.below hB) (HJ.out.below hB) hl HOK.out hid hn8 (by omega) (by omega)).mono ?_
      rintro e x3 ⟨rfl, hX3⟩
      have HD3 : Hid (Below w.heap.size w x3) := HD.out.trans (hX3.mono HD.out.size)
      have HB3 : Hid (Below x1.heap.size x1 x3) := hB.trans (hX3.mono hB.size)
      clear hX3
      cases hf : fitsF js nodes id t with
      | false =>
        go_wp2_with fail
        go_roundg ((last - (t + 1)).toNat + 1)
        case measure => omega
        case rel => exact ⟨t + 1, _, rfl, by omega, by omega, rfl, by go_num, by show _ = _; rw [HT.out, HEB.out t ht1 ht2, if_pos ⟨hlt, hf⟩], HB3.out⟩
      | true =>
        go_wp2_with fail
        go_ret
        exact ⟨by rw [HT.out, HEB.out t ht1 ht2, if_neg (by rw [hf]; simp)]; rfl, HD3.out⟩
    · have hlt' : decide (t < last) = false := by simpa using hlt
      go_wp2_with fail
      go_ret
      exact ⟨by rw [HT.out, HEB.out t ht1 ht2, if_neg (by rintro ⟨q, _⟩; omega)]; rfl, HD.out⟩
end Go.Proofs.YtanknpmojblmcaaGreatDoor

/-
  A system in memory: what of it may change, and what its rows hold.
-/
set_option linter.unusedSimpArgs false
set_option linter.unusedVariables false
namespace Go.Proofs.YtanknpmojblmcaaGreatDoor
open Go.RowKit

/-- Only blocks of D have changed. -/
structure Keep (D : Nat → Prop) (w w' : World) : Prop where
  os : w'.os = w.os
  tape : w'.tape = w.tape
  output : w'.output = w.output
  size : w.heap.size ≤ w'.heap.size
  block : ∀ k, ¬ D k → w'.heap[k]? = w.heap[k]?
theorem Keep.refl (D : Nat → Prop) (w : World) : Keep D w w := ⟨rfl, rfl, rfl, Nat.le_refl _, fun _ _ => rfl⟩
theorem Keep.trans {D : Nat → Prop} {x y z : World} (a : Keep D x y) (b : Keep D y z) : Keep D x z :=
  ⟨b.os.trans a.os, b.tape.trans a.tape, b.output.trans a.output, Nat.le_trans a.size b.size, fun k hk => (b.block k hk).trans (a.block k hk)⟩
theorem Keep.below {D : Nat → Prop} {w w' : World} (h : Below w.heap.size w w') (hd : ∀ k, w.heap.size ≤ k → D k) : Keep D w w' :=
  ⟨h.os, h.tape, h.output, h.size, fun k hk => h.block k (by
    rcases Nat.lt_or_ge k w.heap.size with h1 | h1
    · exact h1
    · exact absurd (hd k h1) hk)⟩
theorem Keep.setCell {D : Nat → Prop} {x y : World} (h : Keep D x y) {p : Addr} (hp : D p.block) (u : Value) : Keep D x (y.setCell p u) :=
  ⟨h.os, h.tape, h.output, by simpa using h.size, fun k hk => (Below.heap_setCell _ _ _ _ (fun e => hk (by rw [e]; exact hp))).trans (h.block k hk)⟩
theorem Keep.grown {D : Nat → Prop} {x y z : World} {row : Option Nat} (h : Keep D x y) (g : y.grownBy z row) (hr : ∀ k, row = some k → D k) (hd : ∀ k, y.heap.size ≤ k → D k) : Keep D x z :=
  ⟨g.os.trans h.os, g.tape.trans h.tape, g.output.trans h.output, Nat.le_trans h.size g.size, fun k hk => (g.block k (by
    rcases Nat.lt_or_ge k y.heap.size with h1 | h1
    · exact h1
    · exact absurd (hd k h1) hk) (fun e => hk (hr k e.symm))).trans (h.block k hk)⟩
theorem Keep.drewN {D : Nat → Prop} {x y : World} (h : Keep D x y) (n : Nat) : Keep D x (y.drewN n) := ⟨h.os, h.tape, h.output, h.size, h.block⟩

theorem owns_same {w w' : World} {base : Nat} {e : TypeId} {size : Nat} {v : Value} {n : Nat} {xs : List Value} (h : w.ownsRow base e size v n xs) (k : ∀ g, v.ownBlock = some g → w'.heap[g]? = w.heap[g]?) : w'.ownsRow base e size v n xs := by
  obtain ⟨h1, h2 | ⟨g, cap, cur, rfl, h4, h5, h6⟩⟩ := h
  · exact ⟨h1, Or.inl h2⟩
  · exact ⟨h1, Or.inr ⟨g, cap, cur, rfl, h4, (k g rfl).trans h5, h6⟩⟩

/-- What a system is. -/
structure PS where
  gs : List GV
  nodes : Nat
  now : Int
  js : List PJ
  qs : List Nat

structure SM (D : Nat → Prop) (s : Nat) (p : PS) (gv jv qv : Value) (w : World) : Prop where
  pl : Pl s gv p.nodes p.now jv qv w
  gr : w.ownsRow 0 107 5 gv p.gs.length (flatG p.gs)
  jr : w.ownsRow 0 154 6 jv p.js.length (flatP p.js)
  qr : w.ownsRow 0 3 1 qv p.qs.length (p.qs.map iV)
  ds : D s
  dg : ∀ g, gv.ownBlock = some g → D g
  dj : ∀ g, jv.ownBlock = some g → D g
  dq : ∀ g, qv.ownBlock = some g → D g
  dom : ∀ k, w.heap.size ≤ k → D k

variable {D : Nat → Prop} {s : Nat} {p : PS} {gv jv qv : Value} {w w' : World}

theorem SM.below (h : SM D s p gv jv qv w) (k : Below w.heap.size w w') : SM D s p gv jv qv w' :=
  ⟨h.pl.below k, owns_below h.gr k, owns_below h.jr k, owns_below h.qr k, h.ds, h.dg, h.dj, h.dq, fun i hi => h.dom i (Nat.le_trans k.size hi)⟩
theorem SM.keep (h : SM D s p gv jv qv w) (k : Below w.heap.size w w') : Keep D w w' := Keep.below k h.dom
theorem SM.drewN (h : SM D s p gv jv qv w) (n : Nat) : SM D s p gv jv qv (w.drewN n) := h.below (below_drewN (Below.refl _ w) n)

theorem SM.gne (h : SM D s p gv jv qv w) : gv.ownBlock ≠ some s := row_ne h.gr h.pl (by decide)
theorem SM.jne (h : SM D s p gv jv qv w) : jv.ownBlock ≠ some s := row_ne h.jr h.pl (by decide)
theorem SM.qne (h : SM D s p gv jv qv w) : qv.ownBlock ≠ some s := row_ne h.qr h.pl (by decide)
/-- Two rows of different types. -/
theorem rows_ne {x : World} {b1 b2 : Nat} {e t : TypeId} {s1 s2 : Nat} {v u : Value} {n m : Nat} {xs ys : List Value} (h : x.ownsRow b1 e s1 v n xs) (k : x.ownsRow b2 t s2 u m ys) (ht : t ≠ e) : ∀ g, u.ownBlock = some g → v.ownBlock ≠ some g := by
  intro g hg
  rcases k.2 with ⟨rfl, _⟩ | ⟨g', cap, cur, rfl, _, hh, _⟩
  · simp [Value.ownBlock] at hg
  · simp [Value.ownBlock] at hg
    subst hg
    exact row_ne h hh ht

theorem pl_ne {base : Nat} {e : TypeId} {size : Nat} {v : Value} {n : Nat} {xs : List Value} {nodes : Nat} {now : Int} (h : w.ownsRow base e size v n xs) (hp : Pl s gv nodes now jv qv w) (ht : 74 ≠ e) : v.ownBlock ≠ some s := row_ne h hp ht

theorem flatP_set (js : List PJ) (f : Nat) (hf : f < 6) (u : Value) : ∀ (k : Nat) (hk : k < js.length) (j' : PJ), (pjC j').toList = (pjC js[k]).toList.set f u → (flatP js).set (k * 6 + f) u = flatP (js.set k j') := by
  induction js with
  | nil => intro k hk; simp at hk
  | cons x r ih =>
    intro k hk j' he
    have e : flatP (x :: r) = (pjC x).toList ++ flatP r := by simp [flatP]
    have hl : (pjC x).toList.length = 6 := by simp [pjC]
    rw [e]
    cases k with
    | zero =>
      rw [List.set_append_left _ _ (by omega)]
      simp only [List.set_cons_zero, Nat.zero_mul, Nat.zero_add]
      simp only [List.getElem_cons_zero] at he
      rw [← he]
      simp [flatP]
    | succ k =>
      rw [List.set_append_right _ _ (by omega), hl, show (k + 1) * 6 + f - 6 = k * 6 + f from by omega]
      simp only [List.set_cons_succ]
      rw [ih k (by simpa using hk) j' (by simpa using he)]
      simp [flatP]

def PJ.toSt (j : PJ) (n : Nat) : PJ := { j with st := n }
def PJ.toSa (j : PJ) (n : Int) : PJ := { j with sa := n }
def PJ.toEn (j : PJ) (n : Int) : PJ := { j with en := n }

theorem SM.setJ {g n cap : Nat} (h : SM D s p gv (.slice (some ⟨g, 0, none⟩) n cap) qv w) (k f : Nat) (hf : f < 6) (u : Value) (j' : PJ) (hk : k < p.js.length) (he : (pjC j').toList = (pjC p.js[k]).toList.set f u) :
    SM D s { p with js := p.js.set k j' } gv (.slice (some ⟨g, 0, none⟩) n cap) qv (w.setCell ⟨g, k * 6 + f, none⟩ u) := by
  have hn : n = p.js.length := by
    rcases h.jr.2 with ⟨h1, _⟩ | ⟨g', cap', cur, h1, _⟩
    · simp at h1
    · simp at h1; exact h1.2.1
  subst hn
  have hsg : g ≠ s := fun e => h.jne (by simp [Value.ownBlock, e])
  have hst := (h.jr.stored (k * 6 + f) u).1
  refine ⟨whole_set_ne h.pl _ hsg u, ownsRow_setCell_other h.gr (rows_ne h.gr h.jr (by decide) g rfl) u, ?_, ownsRow_setCell_other h.qr (rows_ne h.qr h.jr (by decide) g rfl) u, h.ds, h.dg, h.dj, h.dq, fun i hi => h.dom i (by simpa using hi)⟩
  rw [flatP_set p.js f hf u k hk j' he] at hst
  simpa using hst

/-- The time is another. -/
theorem SM.setNow (h : SM D s p gv jv qv w) (t : Int) : SM D s { p with now := t } gv jv qv (w.setCell ⟨s, 2, none⟩ (.int .i64 t)) :=
  ⟨whole_set h.pl 2 _, ownsRow_setCell_other h.gr h.gne _, ownsRow_setCell_other h.jr h.jne _, ownsRow_setCell_other h.qr h.qne _, h.ds, h.dg, h.dj, h.dq, fun i hi => h.dom i (by simpa using hi)⟩
/-- The queue is another. -/
theorem SM.setQ (h : SM D s p gv jv qv w) {v : Value} {qs : List Nat} (hr : w.ownsRow 0 3 1 v qs.length (qs.map iV)) (hd : ∀ g, v.ownBlock = some g → D g) : SM D s { p with qs := qs } gv jv v (w.setCell ⟨s, 4, none⟩ v) :=
  ⟨whole_set h.pl 4 _, ownsRow_setCell_other h.gr h.gne _, ownsRow_setCell_other h.jr h.jne _, ownsRow_setCell_other hr (a := ⟨s, 4, none⟩) (pl_ne hr h.pl (by decide)) _, h.ds, h.dg, h.dj, hd, fun i hi => h.dom i (by simpa using hi)⟩
/-- One more is in the queue. -/
theorem SM.pushQ (h : SM D s p gv jv qv w) {v : Value} {k : Nat} (g : w.grownBy w' qv.ownBlock) (hr : w'.ownsRow 0 3 1 v (p.qs.length + 1) (p.qs.map iV ++ [iV k])) (hv : ∀ b, v.ownBlock = some b → D b) : SM D s { p with qs := p.qs ++ [k] } gv jv v (w'.setCell ⟨s, 4, none⟩ v) := by
  have hs : w'.heap[s]? = w.heap[s]? := g.block s h.pl.lt (fun e => h.qne e.symm)
  have hpl : Pl s gv p.nodes p.now jv qv w' := hs.trans h.pl
  have hg : w'.ownsRow 0 107 5 gv p.gs.length (flatG p.gs) := owns_same h.gr (fun b hb => g.block b (h.gr.lt b hb).2 (fun e => rows_ne h.gr h.qr (by decide) b e.symm hb))
  have hj : w'.ownsRow 0 154 6 jv p.js.length (flatP p.js) := owns_same h.jr (fun b hb => g.block b (h.jr.lt b hb).2 (fun e => rows_ne h.jr h.qr (by decide) b e.symm hb))
  refine ⟨whole_set hpl 4 _, ownsRow_setCell_other hg (a := ⟨s, 4, none⟩) (pl_ne hg hpl (by decide)) _, ownsRow_setCell_other hj (a := ⟨s, 4, none⟩) (pl_ne hj hpl (by decide)) _, ?_, h.ds, h.dg, h.dj, hv, fun i hi => h.dom i (Nat.le_trans g.size (by simpa using hi))⟩
  have := ownsRow_setCell_other hr (a := ⟨s, 4, none⟩) (pl_ne hr hpl (by decide)) v
  simpa using this

end Go.Proofs.YtanknpmojblmcaaGreatDoor

/-
  Package link: for each head of a batch one that it waits for and that is stuck.
-/
set_option linter.unusedSimpArgs false
set_option linter.unusedVariables false
namespace Go.Proofs.YtanknpmojblmcaaGreatDoor
open Go.RowKit

/-- A list of lists of numbers, that may be read alone. -/
def Ws (v : Value) (ws : List (List Nat)) (w : World) : Prop :=
  (v = .slice none 0 0 ∧ ws = []) ∨ ∃ g cap, ∃ qs : Nat → Value, v = .slice (some ⟨g, 0, none⟩) ws.length cap ∧ ws.length ≤ cap ∧ g < w.heap.size ∧ ∀ k, (hk : k < ws.length) → w.cell? ⟨g, k, none⟩ = some (qs k) ∧ Ns (qs k) ws[k] w
theorem Ws.form {v : Value} {js : List (List Nat)} {w : World} (h : Ws v js w) : ∃ a c, v = .slice a js.length c := by
  rcases h with ⟨rfl, rfl⟩ | ⟨g, cap, qs, rfl, _⟩
  · exact ⟨_, _, rfl⟩
  · exact ⟨_, _, rfl⟩
def zV (z : Int) : Value := .int .i64 z
def bV (b : Bool) : Value := .bool b
theorem Zs.of {w : World} {base : Nat} {v : Value} {js : List Int} {n : Nat} (hn0 : n = js.length) (h : w.ownsRow base 3 1 v n (js.map zV)) : Zs v js w := by
  subst hn0
  rcases h.2 with ⟨hv, hn⟩ | ⟨g, cap, cur, hv, h1, h2, h3, h4, h5, h6⟩
  · exact Or.inl ⟨hv, List.eq_nil_of_length_eq_zero hn⟩
  · right
    subst hv
    refine ⟨g, cap, rfl, h3, whole_lt h2, ?_⟩
    intro k hk
    rw [h.cellAt k (by omega)]
    simp [hk, zV]
theorem Bs.of {w : World} {base : Nat} {v : Value} {js : List Bool} {n : Nat} (hn0 : n = js.length) (h : w.ownsRow base 4 1 v n (js.map bV)) : Bs v js w := by
  subst hn0
  rcases h.2 with ⟨hv, hn⟩ | ⟨g, cap, cur, hv, h1, h2, h3, h4, h5, h6⟩
  · exact Or.inl ⟨hv, List.eq_nil_of_length_eq_zero hn⟩
  · right
    subst hv
    refine ⟨g, cap, rfl, h3, whole_lt h2, ?_⟩
    intro k hk
    rw [h.cellAt k (by omega)]
    simp [hk, bV]

def wayStep (ws : List (List Nat)) (i : Nat) (st : List Bool × List Int) : List Bool × List Int := (st.1.set i (decide (notFr st.1 (ws.getD i []) < 0)), st.2.set i (notFr st.1 (ws.getD i [])))
def wayRow (ws : List (List Nat)) (st : List Bool × List Int) : Nat → List Bool × List Int
  | 0 => st
  | n + 1 => wayStep ws n (wayRow ws st n)
def wayN (ws : List (List Nat)) : Nat → List Bool × List Int
  | 0 => (List.replicate ws.length false, List.replicate ws.length 0)
  | r + 1 => wayRow ws (wayN ws r) ws.length
def waysF (ws : List (List Nat)) : List Int := (wayN ws ws.length).2
theorem wayRow_len (ws : List (List Nat)) (st : List Bool × List Int) : ∀ n, (wayRow ws st n).1.length = st.1.length ∧ (wayRow ws st n).2.length = st.2.length := by
  intro n
  induction n with
  | zero => exact ⟨rfl, rfl⟩
  | succ n ih => unfold wayRow wayStep; simp [ih]
theorem wayN_len (ws : List (List Nat)) : ∀ n, (wayN ws n).1.length = ws.length ∧ (wayN ws n).2.length = ws.length := by
  intro n
  induction n with
  | zero => unfold wayN; simp
  | succ n ih => unfold wayN; rw [(wayRow_len ws _ _).1, (wayRow_len ws _ _).2]; exact ih

theorem infoBoolL : (Tryz.prog.info? 4).map (fun i => (i.zero, i.size, i.bytes)) = some (some (.bool false), 1, 1) := by kernel_rfl

set_option maxRecDepth 100000 in
set_option maxHeartbeats 2000000 in
theorem lkWays (v : Value) (ws : List (List Nat)) (w : World) (hW : Ws v ws w) (hl : ws.length ≤ 100) (hj : ∀ l ∈ ws, l.length ≤ 1000 ∧ ∀ j ∈ l, j < ws.length) :
    Calls Tryz.prog 84 #[v] w fun e w' => ∃ x, e = .returned x ∧ w'.ownsRow w.heap.size 3 1 x ws.length ((waysF ws).map zV) ∧ Below w.heap.size w w' := by
  obtain ⟨i0, hI0, hz0, hz1, hz2⟩ := info_parts infoIntL
  obtain ⟨i1, hI1, hy0, hy1, hy2⟩ := info_parts infoBoolL
  obtain ⟨a, c, rfl⟩ := hW.form
  have HW : Hid (Ws (.slice a ws.length c) ws w) := hW
  have HJ : Hid (∀ l ∈ ws, l.length ≤ 1000 ∧ ∀ j ∈ l, j < ws.length) := hj
  clear hW hj
  go_enter Tryz.func84, Tryz.ntmps84
  go_wp2_with (refine wpList_make_full _ rfl _ _ 149 rfl w.heap.size 4 i1 (.bool false) 1 Tryz.underlying149 hI1 hy0 hy1 _ _ _ _ ws.length rfl rfl rfl rfl ?b2 ?b3 ?b4 ?_)
  case b2 => rw [hy2]; omega
  case b3 => unfold maxLen; omega
  case b4 => exact Nat.le_refl _
  intro x1 hown1 hg1
  have hB1 : Below w.heap.size w x1 := (Below.refl _ w).grown hg1 (Nat.le_refl _) (by simp)
  have hsz1 := hB1.size
  go_wp2_with (refine wpList_make_full _ rfl _ _ 36 rfl w.heap.size 3 i0 (.int .i64 0) 1 Tryz.underlying36 hI0 hz0 hz1 _ _ _ _ ws.length rfl rfl rfl rfl ?b2 ?b3 ?b4 ?_)
  case b2 => rw [hz2]; omega
  case b3 => unfold maxLen; omega
  case b4 => omega
  intro x2 hown2 hg2
  have hB2 : Below w.heap.size w x2 := hB1.grown hg2 hsz1 (by simp)
  have hown1' := owns_below hown1 (show Below x1.heap.size x1 x2 from (Below.refl _ x1).grown hg2 (Nat.le_refl _) (by simp))
  have HF0 : Hid (x2.ownsRow w.heap.size 4 1 (.slice (some ⟨w.heap.size, 0, none⟩) ws.length ws.length) ws.length ((wayN ws 0).1.map bV)) := by
    show World.ownsRow _ _ _ _ _ _ _
    have e : (wayN ws 0).1.map bV = (madeCells #[Value.bool false] ws.length).toList := by
      rw [toList_madeCells_one]
      unfold wayN; simp [bV]
    rw [e]; exact hown1'
  have HG0 : Hid (x2.ownsRow w.heap.size 3 1 (.slice (some ⟨x1.heap.size, 0, none⟩) ws.length ws.length) ws.length ((wayN ws 0).2.map zV)) := by
    show World.ownsRow _ _ _ _ _ _ _
    have e : (wayN ws 0).2.map zV = (madeCells #[Value.int .i64 0] ws.length).toList := by
      rw [toList_madeCells_one]
      unfold wayN; simp [zV]
    rw [e]; exact hown2
  have HB2 : Hid (Below w.heap.size w x2) := hB2
  generalize x1.heap.size = gb at *
  clear hown1 hg1 hB1 hsz1 hown2 hg2 hB2 hown1'
  have HLN : Hid (∀ n, (wayN ws n).1.length = ws.length ∧ (wayN ws n).2.length = ws.length) := wayN_len ws
  go_wp2_with fail
  go_loopg [15] (ws.length + 1) (fun r x wr => ∃ (n : Nat) (wz : World), wz = wr ∧ n ≤ ws.length ∧ r = ws.length - n + 1 ∧ x = .int .i64 (n : Int) ∧ Hid (wz.ownsRow w.heap.size 4 1 (.slice (some ⟨w.heap.size, 0, none⟩) ws.length ws.length) ws.length ((wayN ws n).1.map bV)) ∧ Hid (wz.ownsRow w.heap.size 3 1 (.slice (some ⟨gb, 0, none⟩) ws.length ws.length) ws.length ((wayN ws n).2.map zV)) ∧ Hid (Below w.heap.size w wz))
  case atStart => exact ⟨0, _, rfl, Nat.zero_le _, rfl, rfl, HF0, HG0, HB2⟩
  case round =>
    obtain ⟨n, wz, rfl, hn, rfl, rfl, HF, HG, HB⟩ := hrel
    by_cases hlt : n < ws.length
    · have hlt' : (n : Int) < (ws.length : Int) := by omega
      obtain ⟨hl1, hl2⟩ := HLN.out n
      have HNX : Hid (wayN ws (n + 1) = wayRow ws (wayN ws n) ws.length) := rfl
      have HNC : Hid (∀ S : List Bool × List Int, S.1.length = ws.length → S.2.length = ws.length → ∀ k, (wayRow ws S k).1.length = ws.length ∧ (wayRow ws S k).2.length = ws.length) := fun S q1 q2 k => by rw [(wayRow_len ws S k).1, (wayRow_len ws S k).2]; exact ⟨q1, q2⟩
      generalize wayN ws n = S at *
      go_wp2_with fail
      go_loopg [19] (ws.length + 1) (fun r x wr => ∃ (k : Nat) (wy : World), wy = wr ∧ k ≤ ws.length ∧ r = ws.length - k + 1 ∧ x = .int .i64 (k : Int) ∧ Hid (wy.ownsRow w.heap.size 4 1 (.slice (some ⟨w.heap.size, 0, none⟩) ws.length ws.length) ws.length ((wayRow ws S k).1.map bV)) ∧ Hid (wy.ownsRow w.heap.size 3 1 (.slice (some ⟨gb, 0, none⟩) ws.length ws.length) ws.length ((wayRow ws S k).2.map zV)) ∧ Hid (Below w.heap.size w wy))
      case atStart => exact ⟨0, _, rfl, Nat.zero_le _, rfl, rfl, HF, HG, HB⟩
      case round =>
        obtain ⟨k, wy, rfl, hk, rfl, rfl, HF1, HG1, HB1⟩ := hrel
        by_cases hkl : k < ws.length
        · have hkl' : (k : Int) < (ws.length : Int) := by omega
          rcases HW.out with ⟨_, he⟩ | ⟨b, cap, qs, hv, hcap, hb, hcell⟩
          · rw [he] at hkl; simp at hkl
          cases hv
          have l0 := (HB1.out.cell (p := ⟨b, k, none⟩) hb).trans (hcell k hkl).1
          have HNs : Hid (Ns (qs k) ws[k] wy) := by
            show Ns _ _ _
            rcases (hcell k hkl).2 with q | ⟨g', cap', q1, q2, q3, q4⟩
            · exact Or.inl q
            · exact Or.inr ⟨g', cap', q1, q2, Nat.lt_of_lt_of_le q3 HB1.out.size, fun i hi => (HB1.out.cell (p := ⟨g', i, none⟩) q3).trans (q4 i hi)⟩
          obtain ⟨qa, qc, hq⟩ := HNs.out.form
          obtain ⟨hj1, hj2⟩ := HJ.out _ (List.getElem_mem hkl)
          obtain ⟨hc1, hc2⟩ := HNC.out S hl1 hl2 k
          have HSU : Hid (wayRow ws S (k + 1) = ((wayRow ws S k).1.set k (decide (notFr (wayRow ws S k).1 ws[k] < 0)), (wayRow ws S k).2.set k (notFr (wayRow ws S k).1 ws[k]))) := by
            show _ = _
            have e : ws.getD k [] = ws[k] := by simp [hkl]
            rw [← e]; rfl
          clear hcell
          generalize qs k = q at *
          generalize ws[k] = l at *
          subst hq
          generalize wayRow ws S k = T at *
          obtain ⟨F, G⟩ := T
          dsimp only at *
          have hGk : gb < wy.heap.size := (HG1.out.lt gb rfl).2
          have hFk : w.heap.size < wy.heap.size := (HF1.out.lt w.heap.size rfl).2
          have hFG : gb ≠ w.heap.size := by
            intro e
            have := rows_ne HF1.out HG1.out (by decide) gb rfl
            exact this (by rw [e]; rfl)
          go_wp2_with fail
          refine (lkNotFree _ _ l F _ HNs.out (Bs.of (by omega) HF1.out) (by omega) (by omega) (fun j hj => by rw [hc1]; exact hj2 j hj)).mono ?_
          rintro e y1 ⟨rfl, hY1⟩
          have hF2 := owns_below HF1.out hY1
          have hG2 := owns_below HG1.out hY1
          have HB2 : Hid (Below w.heap.size w y1) := HB1.out.trans (hY1.mono HB1.out.size)
          clear hY1 l0
          generalize notFr F l = z at *
          have hF3 := ownsRow_setCell_other hF2 (a := ⟨gb, k, none⟩) (rows_ne hF2 hG2 (by decide) gb rfl) (.int .i64 z)
          have hG3 := (hG2.stored k (.int .i64 z)).1
          have hG4 := ownsRow_setCell_other hG3 (a := ⟨w.heap.size, k, none⟩) (rows_ne hG3 hF3 (by decide) w.heap.size rfl) (.bool (decide (z < 0)))
          have hF4 := (hF3.stored k (.bool (decide (z < 0)))).1
          have HF4 : Hid (((y1.setCell ⟨gb, k, none⟩ (.int .i64 z)).setCell ⟨w.heap.size, k, none⟩ (.bool (decide (z < 0)))).ownsRow w.heap.size 4 1 (.slice (some ⟨w.heap.size, 0, none⟩) ws.length ws.length) ws.length ((F.set k (decide (z < 0))).map bV)) := by
            show World.ownsRow _ _ _ _ _ _ _
            rw [List.map_set]; exact hF4
          have HG4 : Hid (((y1.setCell ⟨gb, k, none⟩ (.int .i64 z)).setCell ⟨w.heap.size, k, none⟩ (.bool (decide (z < 0)))).ownsRow w.heap.size 3 1 (.slice (some ⟨gb, 0, none⟩) ws.length ws.length) ws.length ((G.set k z).map zV)) := by
            show World.ownsRow _ _ _ _ _ _ _
            rw [List.map_set]; exact hG4
          have hgw : w.heap.size ≤ gb := (HG1.out.lt gb rfl).1
          have HB4 : Hid (Below w.heap.size w ((y1.setCell ⟨gb, k, none⟩ (.int .i64 z)).setCell ⟨w.heap.size, k, none⟩ (.bool (decide (z < 0))))) := (HB2.out.setCell (p := ⟨gb, k, none⟩) hgw _).setCell (p := ⟨w.heap.size, k, none⟩) (Nat.le_refl _) _
          have zG := hG2.frozenAt k
          have zF := hF2.frozenAt k
          have cG : y1.cell? ⟨gb, k, none⟩ = some (.int .i64 (G.getD k 0)) := by
            rw [hG2.cellAt k (by omega)]
            simp [zV, show k < G.length by omega]
          have cF : y1.cell? ⟨w.heap.size, k, none⟩ = some (.bool (F.getD k false)) := by
            rw [hF2.cellAt k (by omega)]
            simp [bV, show k < F.length by omega]
          clear hF2 hG2 hF3 hG3 hG4 hF4
          go_wp2_with fail
          go_roundg (ws.length - (k + 1) + 1)
          case measure => omega
          case rel => exact ⟨k + 1, _, rfl, by omega, rfl, by go_num, by rw [HSU.out]; exact HF4, by rw [HSU.out]; exact HG4, HB4⟩
        · have hkl' : ¬ (k : Int) < (ws.length : Int) := by omega
          have hkk : k = ws.length := by omega
          subst hkk
          go_wp2_with fail
          go_roundg (ws.length - (n + 1) + 1)
          case measure => omega
          case rel => exact ⟨n + 1, _, rfl, by omega, rfl, by go_num, by rw [HNX.out]; exact HF1, by rw [HNX.out]; exact HG1, HB1⟩
    · have hlt' : ¬ (n : Int) < (ws.length : Int) := by omega
      have hnn : n = ws.length := by omega
      subst hnn
      go_wp2_with fail
      go_ret
      exact ⟨_, rfl, HG.out, HB.out⟩
end Go.Proofs.YtanknpmojblmcaaGreatDoor

/-
  Package link: what ways tells; a ring.
-/
set_option linter.unusedSimpArgs false
set_option linter.unusedVariables false
namespace Go.Proofs.YtanknpmojblmcaaGreatDoor

theorem notFr_neg (f : List Bool) : ∀ (l : List Nat), notFr f l < 0 ↔ ∀ k ∈ l, f.getD k false = true := by
  intro l
  induction l with
  | nil => simp [notFr]
  | cons x r ih =>
    unfold notFr
    cases hx : f.getD x false with
    | true =>
      rw [if_pos rfl, ih]
      constructor
      · intro h k hk
        rcases List.mem_cons.mp hk with e | e
        · rw [e]; exact hx
        · exact h k e
      · intro h k hk
        exact h k (List.mem_cons.mpr (Or.inr hk))
    | false =>
      rw [if_neg (by decide)]
      constructor
      · intro h; omega
      · intro h
        have := h x (by simp)
        rw [hx] at this
        exact absurd this (by decide)
theorem notFr_pos (f : List Bool) : ∀ (l : List Nat), 0 ≤ notFr f l → ∃ k ∈ l, notFr f l = (k : Int) ∧ f.getD k false = false := by
  intro l
  induction l with
  | nil => intro h; simp [notFr] at h
  | cons x r ih =>
    intro h
    unfold notFr at h ⊢
    cases hx : f.getD x false with
    | true =>
      rw [hx, if_pos rfl] at h
      obtain ⟨k, h1, h2, h3⟩ := ih h
      exact ⟨k, by simp [h1], by rw [if_pos rfl]; exact h2, h3⟩
    | false => exact ⟨x, by simp, by rw [if_neg (by decide)], hx⟩

def cntB : List Bool → Nat
  | [] => 0
  | b :: r => (if b = true then 1 else 0) + cntB r
theorem cntB_le : ∀ (f g : List Bool), f.length = g.length → (∀ k, f.getD k false = true → g.getD k false = true) → cntB f ≤ cntB g ∧ (cntB f = cntB g → f = g) := by
  intro f
  induction f with
  | nil => intro g hl _; cases g with | nil => exact ⟨Nat.le_refl _, fun _ => rfl⟩ | cons _ _ => simp at hl
  | cons a r ih =>
    intro g hl h
    cases g with
    | nil => simp at hl
    | cons b s =>
      have h1 := ih s (by simpa using hl) (fun k hk => by have := h (k + 1) (by simpa using hk); simpa using this)
      have h0 := h 0
      simp at h0
      cases a with
      | true =>
        have hb : b = true := h0 rfl
        subst hb
        simp only [cntB, if_true]
        exact ⟨by omega, fun e => by rw [h1.2 (by omega)]⟩
      | false =>
        cases b with
        | true =>
          simp only [cntB, if_true, Bool.false_eq_true, if_false]
          exact ⟨by omega, fun e => by omega⟩
        | false =>
          simp only [cntB, Bool.false_eq_true, if_false]
          exact ⟨by omega, fun e => by rw [h1.2 (by omega)]⟩
theorem cntB_len : ∀ (f : List Bool), cntB f ≤ f.length ∧ (cntB f = f.length → ∀ k, k < f.length → f.getD k false = true) := by
  intro f
  induction f with
  | nil => exact ⟨Nat.le_refl _, fun _ k hk => by simp at hk⟩
  | cons a r ih =>
    cases a with
    | true =>
      simp only [cntB, if_true, List.length_cons]
      refine ⟨by omega, fun e k hk => ?_⟩
      cases k with
      | zero => rfl
      | succ k => simpa using ih.2 (by omega) k (by omega)
    | false =>
      simp only [cntB, Bool.false_eq_true, if_false, List.length_cons]
      exact ⟨by omega, fun e => by omega⟩
theorem cntB_set : ∀ (f : List Bool) (k : Nat), k < f.length → f.getD k false = false → cntB (f.set k true) = cntB f + 1 := by
  intro f
  induction f with
  | nil => intro k hk; simp at hk
  | cons a r ih =>
    intro k hk h
    cases k with
    | zero =>
      have ha : a = false := by simpa using h
      subst ha
      simp [cntB]; omega
    | succ k =>
      have := ih k (by simpa using hk) (by simpa using h)
      simp only [List.set_cons_succ, cntB]
      omega
theorem getB_set (f : List Bool) (i k : Nat) (b : Bool) (hi : i < f.length) : (f.set i b).getD k false = if k = i then b else f.getD k false := by
  by_cases hk : k = i
  · subst hk; simp [hi]
  · rw [if_neg hk]
    simp [List.getElem?_set, show ¬ i = k from fun e => hk e.symm]

def InvW (ws : List (List Nat)) (f : List Bool) : Prop := ∀ i, f.getD i false = true → ∀ k ∈ ws.getD i [], f.getD k false = true

theorem row_step (ws : List (List Nat)) (S : List Bool × List Int) (n : Nat) : (wayRow ws S (n + 1)).1 = (wayRow ws S n).1.set n (decide (notFr (wayRow ws S n).1 (ws.getD n []) < 0)) ∧ (wayRow ws S (n + 1)).2 = (wayRow ws S n).2.set n (notFr (wayRow ws S n).1 (ws.getD n [])) := ⟨rfl, rfl⟩

theorem row_mono {ws : List (List Nat)} {S : List Bool × List Int} (h1 : S.1.length = ws.length) (hI : InvW ws S.1) : ∀ n, n ≤ ws.length → InvW ws (wayRow ws S n).1 ∧ ∀ m, m ≤ n → ∀ k, (wayRow ws S m).1.getD k false = true → (wayRow ws S n).1.getD k false = true := by
  intro n
  induction n with
  | zero => intro _; exact ⟨hI, fun m hm k hk => by
      have e : m = 0 := by omega
      subst e
      exact hk⟩
  | succ n ih =>
    intro hn
    obtain ⟨i1, i2⟩ := ih (by omega)
    have hl : n < (wayRow ws S n).1.length := by rw [(wayRow_len ws S n).1]; omega
    have hmono : ∀ k, (wayRow ws S n).1.getD k false = true → (wayRow ws S (n + 1)).1.getD k false = true := by
      intro k hk
      rw [(row_step ws S n).1, getB_set _ _ _ _ hl]
      split
      · rename_i e
        subst e
        simp only [decide_eq_true_eq]
        exact (notFr_neg _ _).mpr (i1 k hk)
      · exact hk
    refine ⟨?_, ?_⟩
    · intro i hi k hk
      apply hmono
      rw [(row_step ws S n).1, getB_set _ _ _ _ hl] at hi
      split at hi
      · rename_i e
        subst e
        simp only [decide_eq_true_eq] at hi
        exact (notFr_neg _ _).mp hi k hk
      · exact i1 i hi k hk
    · intro m hm k hk
      rcases Nat.lt_or_ge n m with h | h
      · obtain rfl : m = n + 1 := by omega
        exact hk
      · exact hmono k (i2 m h k hk)
theorem row_fst {ws : List (List Nat)} (S T : List Bool × List Int) (h : S.1 = T.1) : ∀ n, (wayRow ws S n).1 = (wayRow ws T n).1 := by
  intro n
  induction n with
  | zero => exact h
  | succ n ih => rw [(row_step ws S n).1, (row_step ws T n).1, ih]
theorem row_vals {ws : List (List Nat)} {S : List Bool × List Int} (h1 : S.1.length = ws.length) (h2 : S.2.length = ws.length) : ∀ n, n ≤ ws.length → ∀ i, i < n → (wayRow ws S n).2.getD i 0 = notFr (wayRow ws S i).1 (ws.getD i []) ∧ (wayRow ws S n).1.getD i false = decide (notFr (wayRow ws S i).1 (ws.getD i []) < 0) := by
  intro n
  induction n with
  | zero => intro _ i hi; omega
  | succ n ih =>
    intro hn i hi
    have hl : n < (wayRow ws S n).1.length := by rw [(wayRow_len ws S n).1]; omega
    have hl2 : n < (wayRow ws S n).2.length := by rw [(wayRow_len ws S n).2]; omega
    rw [(row_step ws S n).1, (row_step ws S n).2, getB_set _ _ _ _ hl]
    by_cases e : i = n
    · subst e
      refine ⟨?_, by rw [if_pos rfl]⟩
      simp [hl2]
    · obtain ⟨a, b⟩ := ih (by omega) i (by omega)
      rw [if_neg e, b]
      refine ⟨?_, rfl⟩
      rw [← a]
      simp [List.getElem?_set, show ¬ n = i from fun q => e q.symm]

theorem wayN_inv (ws : List (List Nat)) : ∀ r, InvW ws (wayN ws r).1 := by
  intro r
  induction r with
  | zero =>
    intro i hi
    unfold wayN at hi
    by_cases h : i < ws.length
    · simp [h] at hi
    · simp [h] at hi
  | succ r ih => exact (row_mono (wayN_len ws r).1 ih ws.length (Nat.le_refl _)).1
theorem wayN_mono (ws : List (List Nat)) (r : Nat) : ∀ k, (wayN ws r).1.getD k false = true → (wayN ws (r + 1)).1.getD k false = true := fun k hk => (row_mono (wayN_len ws r).1 (wayN_inv ws r) ws.length (Nat.le_refl _)).2 0 (Nat.zero_le _) k hk
theorem wayN_stay (ws : List (List Nat)) (r : Nat) (h : (wayN ws (r + 1)).1 = (wayN ws r).1) : ∀ d, (wayN ws (r + d)).1 = (wayN ws r).1 := by
  intro d
  induction d with
  | zero => rfl
  | succ d ih =>
    have e : (wayN ws (r + (d + 1))).1 = (wayRow ws (wayN ws (r + d)) ws.length).1 := rfl
    rw [e, row_fst _ (wayN ws r) ih ws.length]
    exact h
theorem wayN_cnt (ws : List (List Nat)) : ∀ r, (∃ q, q < r ∧ (wayN ws (q + 1)).1 = (wayN ws q).1) ∨ r ≤ cntB (wayN ws r).1 := by
  intro r
  induction r with
  | zero => exact Or.inr (Nat.zero_le _)
  | succ r ih =>
    rcases ih with ⟨q, h1, h2⟩ | h
    · exact Or.inl ⟨q, by omega, h2⟩
    · have hc := cntB_le (wayN ws r).1 (wayN ws (r + 1)).1 (by rw [(wayN_len ws r).1, (wayN_len ws (r + 1)).1]) (wayN_mono ws r)
      by_cases e : cntB (wayN ws r).1 = cntB (wayN ws (r + 1)).1
      · exact Or.inl ⟨r, by omega, (hc.2 e).symm⟩
      · exact Or.inr (by omega)

/-- What ways tells: which are free behind the last round, and of each other one that it waits for and that is not. -/
theorem ways_spec (ws : List (List Nat)) : InvW ws (wayN ws ws.length).1 ∧ (∀ i, i < ws.length → ((waysF ws).getD i 0 < 0 ↔ (wayN ws ws.length).1.getD i false = true)) ∧ (∀ i, i < ws.length → 0 ≤ (waysF ws).getD i 0 → ∃ k ∈ ws.getD i [], (waysF ws).getD i 0 = (k : Int) ∧ (wayN ws ws.length).1.getD k false = false) := by
  refine ⟨wayN_inv ws _, ?_, ?_⟩
  · intro i hi
    obtain ⟨n, hn⟩ : ∃ n, ws.length = n + 1 := ⟨ws.length - 1, by omega⟩
    have hv := row_vals (wayN_len ws n).1 (wayN_len ws n).2 ws.length (Nat.le_refl _) i hi
    have e : wayN ws ws.length = wayRow ws (wayN ws n) ws.length := by rw [hn]; show wayRow ws (wayN ws n) ws.length = _; rw [hn]
    unfold waysF
    rw [e, hv.1, hv.2]
    simp
  · intro i hi h0
    obtain ⟨n, hn⟩ : ∃ n, ws.length = n + 1 := ⟨ws.length - 1, by omega⟩
    have hv := row_vals (wayN_len ws n).1 (wayN_len ws n).2 ws.length (Nat.le_refl _) i hi
    have e : wayN ws ws.length = wayRow ws (wayN ws n) ws.length := by rw [hn]; show wayRow ws (wayN ws n) ws.length = _; rw [hn]
    have hst : (wayN ws ws.length).1 = (wayN ws n).1 := by
      rcases wayN_cnt ws ws.length with ⟨q, h1, h2⟩ | h
      · have a := wayN_stay ws q h2 (ws.length - q)
        have b := wayN_stay ws q h2 (n - q)
        rw [show q + (ws.length - q) = ws.length from by omega] at a
        rw [show q + (n - q) = n from by omega] at b
        rw [a, b]
      · exfalso
        have hc := cntB_len (wayN ws ws.length).1
        rw [(wayN_len ws ws.length).1] at hc
        have hall := hc.2 (by omega) i hi
        rw [e, hv.2] at hall
        simp only [decide_eq_true_eq] at hall
        unfold waysF at h0
        rw [e, hv.1] at h0
        omega
    have hrow : ∀ m, m ≤ ws.length → (wayRow ws (wayN ws n) m).1 = (wayN ws n).1 := by
      intro m hm
      have h1 := (row_mono (wayN_len ws n).1 (wayN_inv ws n) ws.length (Nat.le_refl _)).2 m hm
      have h2 := (row_mono (wayN_len ws n).1 (wayN_inv ws n) m hm).2 0 (Nat.zero_le _)
      rw [← e, hst] at h1
      have c1 := cntB_le (wayRow ws (wayN ws n) m).1 (wayN ws n).1 (wayRow_len ws _ m).1 h1
      have c2 := cntB_le (wayN ws n).1 (wayRow ws (wayN ws n) m).1 (wayRow_len ws _ m).1.symm h2
      exact c1.2 (by omega)
    unfold waysF at h0 ⊢
    rw [e, hv.1, hrow i (by omega)] at h0
    obtain ⟨k, k1, k2, k3⟩ := notFr_pos _ _ h0
    refine ⟨k, k1, ?_, ?_⟩
    · rw [e, hv.1, hrow i (by omega)]; exact k2
    · rw [hst]; exact k3

/-- From a head on, so many steps. -/
def goN (nx : List Int) (at0 : Nat) : Nat → Nat
  | 0 => at0
  | n + 1 => (nx.getD (goN nx at0 n) 0).toNat
/-- The heads that are met until one is met again. -/
def ringL (nx : List Int) : Nat → Nat → List Nat → List Nat
  | 0, _, l => l
  | f + 1, a, l => if a ∈ l then l else ringL nx f (nx.getD a 0).toNat (l ++ [a])
def ringF (ws : List (List Nat)) : List Nat :=
  if stuckF 0 (waysF ws) < 0 then [] else ringL (waysF ws) (ws.length + 1) (goN (waysF ws) (stuckF 0 (waysF ws)).toNat ws.length) []

theorem stuckF_spec : ∀ (zs : List Int) (n : Nat), stuckF n zs < 0 ∨ ∃ k, k < zs.length ∧ stuckF n zs = ((n + k : Nat) : Int) ∧ 0 ≤ zs.getD k 0 := by
  intro zs
  induction zs with
  | nil => intro n; left; simp [stuckF]
  | cons z r ih =>
    intro n
    unfold stuckF
    split
    · rename_i h
      exact Or.inr ⟨0, by simp, by simp, by simpa using h⟩
    · rcases ih (n + 1) with h | ⟨k, h1, h2, h3⟩
      · exact Or.inl h
      · exact Or.inr ⟨k + 1, by simp; omega, by rw [h2]; congr 1; omega, by simpa using h3⟩

/-- From each stuck one the way goes on to a stuck one. -/
theorem way_on (ws : List (List Nat)) (hj : ∀ l ∈ ws, ∀ j ∈ l, j < ws.length) (i : Nat) (hi : i < ws.length) (h : 0 ≤ (waysF ws).getD i 0) : (waysF ws).getD i 0 = (((waysF ws).getD i 0).toNat : Int) ∧ ((waysF ws).getD i 0).toNat < ws.length ∧ 0 ≤ (waysF ws).getD ((waysF ws).getD i 0).toNat 0 := by
  obtain ⟨_, h2, h3⟩ := ways_spec ws
  obtain ⟨k, k1, k2, k3⟩ := h3 i hi h
  have hk : k < ws.length := by
    have e : ws.getD i [] = ws[i] := by simp [hi]
    rw [e] at k1
    exact hj _ (List.getElem_mem hi) k k1
  refine ⟨by omega, by omega, ?_⟩
  rw [k2]
  simp only [Int.toNat_natCast]
  rcases Int.lt_or_le ((waysF ws).getD k 0) 0 with q | q
  · rw [(h2 k hk).mp q] at k3; exact absurd k3 (by decide)
  · exact q
theorem goN_ok (ws : List (List Nat)) (hj : ∀ l ∈ ws, ∀ j ∈ l, j < ws.length) (a : Nat) (ha : a < ws.length) (h : 0 ≤ (waysF ws).getD a 0) : ∀ n, goN (waysF ws) a n < ws.length ∧ 0 ≤ (waysF ws).getD (goN (waysF ws) a n) 0 := by
  intro n
  induction n with
  | zero => exact ⟨ha, h⟩
  | succ n ih => exact (way_on ws hj _ ih.1 ih.2).2
end Go.Proofs.YtanknpmojblmcaaGreatDoor

/-
  Package link: ringOf.
-/
set_option linter.unusedSimpArgs false
set_option linter.unusedVariables false
namespace Go.Proofs.YtanknpmojblmcaaGreatDoor
open Go.RowKit

theorem cntB_zero (n : Nat) : cntB (List.replicate n false) = 0 := by
  induction n with
  | zero => rfl
  | succ n ih => rw [List.replicate_succ]; simp [cntB, ih]

set_option maxRecDepth 100000 in
set_option maxHeartbeats 2000000 in
theorem lkRingOf (v : Value) (ws : List (List Nat)) (w : World) (hW : Ws v ws w) (hl : ws.length ≤ 100) (hj : ∀ l ∈ ws, l.length ≤ 1000 ∧ ∀ j ∈ l, j < ws.length) :
    Calls Tryz.prog 48 #[v] w fun e w' => ∃ x, e = .returned x ∧ w'.ownsRow w.heap.size 3 1 x (ringF ws).length ((ringF ws).map iV) ∧ Below w.heap.size w w' := by
  obtain ⟨i0, hI0, hz0, hz1, hz2⟩ := info_parts infoIntL
  obtain ⟨i1, hI1, hy0, hy1, hy2⟩ := info_parts infoBoolL
  have HJ : Hid (∀ l ∈ ws, ∀ j ∈ l, j < ws.length) := fun l hl' => (hj l hl').2
  have HWL := (wayN_len ws ws.length).2
  change (waysF ws).length = ws.length at HWL
  go_enter Tryz.func48, Tryz.ntmps48
  go_wp2_with fail
  refine (lkWays v ws w hW hl hj).mono ?_
  rintro e x1 ⟨nv, rfl, hown1, hB1⟩
  have HZ1 : Hid (Zs nv (waysF ws) x1) := Zs.of HWL.symm hown1
  obtain ⟨na, nc, rfl⟩ := row_formL hown1
  have HB1 : Hid (Below w.heap.size w x1) := hB1
  have HO1 : Hid (x1.ownsRow w.heap.size 3 1 (.slice na ws.length nc) ws.length ((waysF ws).map zV)) := hown1
  clear hown1 hB1 hW hj
  go_wp2_with fail
  refine (lkStuck _ (waysF ws) x1 HZ1.out (by omega)).mono ?_
  rintro e x2 ⟨he, hX2⟩
  have HO2 : Hid (x2.ownsRow w.heap.size 3 1 (.slice na ws.length nc) ws.length ((waysF ws).map zV)) := owns_below HO1.out hX2
  have HB2 : Hid (Below w.heap.size w x2) := HB1.out.trans (hX2.mono HB1.out.size)
  clear hX2
  rcases stuckF_spec (waysF ws) 0 with hs | ⟨a0, ha1, ha2, ha3⟩
  · have HE : Hid (ringF ws = []) := by show _ = _; unfold ringF; rw [if_pos hs]
    subst he
    generalize stuckF 0 (waysF ws) = z at *
    go_wp2_with fail
    go_ret
    exact ⟨_, rfl, by rw [HE.out]; exact World.ownsRow_nil _ _ _ _, HB2.out⟩
  · rw [ha2] at he
    simp only [Nat.zero_add] at he ha2
    have HE : Hid (ringF ws = ringL (waysF ws) (ws.length + 1) (goN (waysF ws) a0 ws.length) []) := by
      show _ = _
      unfold ringF
      rw [ha2, if_neg (by omega)]
      simp
    have HGO : Hid (∀ n, goN (waysF ws) a0 n < ws.length ∧ 0 ≤ (waysF ws).getD (goN (waysF ws) a0 n) 0) := goN_ok ws HJ.out a0 (by omega) ha3
    have HWO : Hid (∀ i, i < ws.length → 0 ≤ (waysF ws).getD i 0 → (waysF ws).getD i 0 = (((waysF ws).getD i 0).toNat : Int) ∧ ((waysF ws).getD i 0).toNat < ws.length ∧ 0 ≤ (waysF ws).getD ((waysF ws).getD i 0).toNat 0) := fun i q1 q2 => way_on ws HJ.out i q1 q2
    have HGS : Hid (∀ n, goN (waysF ws) a0 (n + 1) = ((waysF ws).getD (goN (waysF ws) a0 n) 0).toNat) := fun n => rfl
    have HG0 : Hid (goN (waysF ws) a0 0 = a0) := rfl
    have ha0 : 0 ≤ (a0 : Int) := by omega
    subst he
    generalize hnx : waysF ws = nx at *
    have hn0 : 0 < ws.length := by omega
    obtain ⟨g, cp, hv⟩ : ∃ g cp, Value.slice na ws.length nc = .slice (some ⟨g, 0, none⟩) ws.length cp := by
      rcases HO2.out.2 with ⟨_, q⟩ | ⟨g, cap, cur, hv, _⟩
      · omega
      · exact ⟨g, cap, hv⟩
    cases hv
    go_wp2_with fail
    have HC : Hid (∀ (y : World), y.ownsRow w.heap.size 3 1 (.slice (some ⟨g, 0, none⟩) ws.length nc) ws.length (nx.map zV) → ∀ k, k < ws.length → y.cell? ⟨g, k, none⟩ = some (.int .i64 (nx.getD k 0))) := by
      intro y hy k hk
      rw [hy.cellAt k (by omega)]
      simp [zV, show k < nx.length by omega]
    go_loopg [4, 15] (ws.length + 1) (fun r av x wr => ∃ (n : Nat), wr = x2 ∧ n ≤ ws.length ∧ r = ws.length - n + 1 ∧ x = .int .i64 (n : Int) ∧ av = .int .i64 (goN nx a0 n : Int))
    case atStart => exact ⟨0, rfl, Nat.zero_le _, rfl, rfl, by rw [HG0.out]⟩
    case round =>
      obtain ⟨n, rfl, hn, rfl, rfl, rfl⟩ := hrel
      obtain ⟨hg1, hg2⟩ := HGO.out n
      by_cases hlt : n < ws.length
      · have hlt' : (n : Int) < (ws.length : Int) := by omega
        have l0 := HC.out _ HO2.out (goN nx a0 n) hg1
        have HS : Hid (goN nx a0 (n + 1) = (nx.getD (goN nx a0 n) 0).toNat) := HGS.out n
        obtain ⟨hw1, _, _⟩ := HWO.out _ hg1 hg2
        rw [hw1] at l0
        generalize goN nx a0 n = b at *
        obtain ⟨k, hk⟩ : ∃ k, k = (nx.getD b 0).toNat := ⟨_, rfl⟩
        rw [← hk] at l0 HS
        clear hw1 hk hg2
        go_wp2_with fail
        go_roundg (ws.length - (n + 1) + 1)
        case measure => omega
        case rel => exact ⟨n + 1, rfl, by omega, rfl, by go_num, by rw [HS.out]⟩
      · have hlt' : ¬ (n : Int) < (ws.length : Int) := by omega
        have hnn : n = ws.length := by omega
        subst hnn
        have hsz2 := HB2.out.size
        go_wp2_with (refine wpList_make_full _ rfl _ _ 149 rfl w.heap.size 4 i1 (.bool false) 1 Tryz.underlying149 hI1 hy0 hy1 _ _ _ _ ws.length rfl rfl rfl rfl ?b2 ?b3 ?b4 ?_)
        case b2 => first | omega | (rw [hy2]; omega)
        case b3 => unfold maxLen; omega
        try (case b4 => omega)
        intro x3 hown3 hg3
        have hX3 : Below wr.heap.size wr x3 := (Below.refl _ wr).grown hg3 (Nat.le_refl _) (by simp)
        have HB3 : Hid (Below w.heap.size w x3) := HB2.out.trans (hX3.mono hsz2)
        have HO3 : Hid (x3.ownsRow w.heap.size 3 1 (.slice (some ⟨g, 0, none⟩) ws.length nc) ws.length (nx.map zV)) := owns_below HO2.out hX3
        have HF3 : Hid (x3.ownsRow w.heap.size 4 1 (.slice (some ⟨wr.heap.size, 0, none⟩) ws.length ws.length) ws.length ((List.replicate ws.length false).map bV)) := by
          show World.ownsRow _ _ _ _ _ _ _
          have e : (List.replicate ws.length false).map bV = (madeCells #[Value.bool false] ws.length).toList := by
            rw [toList_madeCells_one]
            simp [bV]
          rw [e]; exact hown3
        have hsw : w.heap.size ≤ wr.heap.size := hsz2
        generalize wr.heap.size = sb at *
        clear hown3 hg3 hX3
        have HGL : Hid (goN nx a0 ws.length < ws.length ∧ 0 ≤ nx.getD (goN nx a0 ws.length) 0) := ⟨hg1, hg2⟩
        obtain ⟨F, hF⟩ : ∃ F, F = ringF ws := ⟨_, rfl⟩
        rw [HE.out] at hF
        have HFE : Hid (ringF ws = F) := by show _ = _; rw [hF]; exact HE.out
        have HF0 : Hid (ringL nx (ws.length + 1) (goN nx a0 ws.length) [] = F) := hF.symm
        clear hF HE
        generalize goN nx a0 ws.length = b0 at *
        go_wp2_with fail
        go_loopg [4, 5] (ws.length + 1) (fun r av rv wr => ∃ (l : List Nat) (fs : List Bool) (b : Nat) (wz : World), wz = wr ∧ av = .int .i64 (b : Int) ∧ r = ws.length - cntB fs + 1 ∧ fs.length = ws.length ∧ cntB fs = l.length ∧ Hid (∀ k, fs.getD k false = true ↔ k ∈ l) ∧ b < ws.length ∧ Hid (0 ≤ nx.getD b 0) ∧ Hid (ringL nx (ws.length + 1 - l.length) b l = F) ∧ Hid (wz.ownsRow w.heap.size 3 1 rv l.length (l.map iV)) ∧ Hid (wz.ownsRow w.heap.size 4 1 (.slice (some ⟨sb, 0, none⟩) ws.length ws.length) ws.length (fs.map bV)) ∧ Hid (wz.ownsRow w.heap.size 3 1 (.slice (some ⟨g, 0, none⟩) ws.length nc) ws.length (nx.map zV)) ∧ Hid (∀ q, rv.ownBlock = some q → q ≠ g) ∧ Hid (Below w.heap.size w wz))
        case atStart => exact ⟨[], List.replicate ws.length false, b0, _, rfl, rfl, by rw [cntB_zero]; rfl, by simp, by rw [cntB_zero]; rfl, (fun k => by by_cases h : k < ws.length <;> simp [h]), HGL.out.1, HGL.out.2, HF0, World.ownsRow_nil _ _ _ _, HF3, HO3, (fun q hq => by simp [Value.ownBlock] at hq), HB3⟩
        case round =>
          obtain ⟨l, fs, b, wz, rfl, rfl, rfl, hfl, hcl, HM, hb, HNB, HRF, HR, HF4, HO4, HNE, HB4⟩ := hrel
          obtain ⟨ra, rc, rfl⟩ := row_formL HR.out
          have hcn := (cntB_len fs).1
          have cF : wz.cell? ⟨sb, b, none⟩ = some (.bool (fs.getD b false)) := by
            rw [HF4.out.cellAt b (by omega)]
            simp [bV, show b < fs.length by omega]
          have zF := HF4.out.frozenAt b
          have cN := HC.out _ HO4.out b hb
          obtain ⟨hw1, hw2, hw3⟩ := HWO.out b hb HNB.out
          rw [hw1] at cN
          have hfu : ws.length + 1 - l.length = (ws.length - l.length) + 1 := by omega
          cases hfb : fs.getD b false with
          | true =>
            rw [hfb] at cF
            have HL : Hid (F = l) := by
              show _ = _
              have q := HRF.out
              rw [hfu] at q
              unfold ringL at q
              rw [if_pos ((HM.out b).mp hfb)] at q
              exact q.symm
            go_wp2_with fail
            go_ret
            exact ⟨_, rfl, by rw [HFE.out, HL.out]; exact HR.out, HB4.out⟩
          | false =>
            rw [hfb] at cF
            have hnl : ¬ b ∈ l := fun q => by rw [(HM.out b).mpr q] at hfb; exact absurd hfb (by decide)
            have HRF2 : Hid (ringL nx (ws.length - l.length) (nx.getD b 0).toNat (l ++ [b]) = F) := by
              show _ = _
              have q := HRF.out
              rw [hfu] at q
              unfold ringL at q
              rw [if_neg hnl] at q
              exact q
            have hcs := cntB_set fs b (by omega) hfb
            have hcn2 := (cntB_len (fs.set b true)).1
            simp only [List.length_set] at hcn2
            have HM2 : Hid (∀ k, (fs.set b true).getD k false = true ↔ k ∈ l ++ [b]) := by
              intro k
              rw [getB_set _ _ _ _ (by omega)]
              split
              · rename_i e; subst e; simp
              · rename_i e
                rw [HM.out k]; simp [e]
            have hgs : g ≠ sb := by
              intro e
              exact rows_ne HO4.out HF4.out (by decide) sb rfl (by rw [← e]; rfl)
            have hF5 := (HF4.out.stored b (.bool true)).1
            have hO5 := ownsRow_setCell_other HO4.out (a := ⟨sb, b, none⟩) (rows_ne HO4.out HF4.out (by decide) sb rfl) (.bool true)
            have hR5 := ownsRow_setCell_other HR.out (a := ⟨sb, b, none⟩) (rows_ne HR.out HF4.out (by decide) sb rfl) (.bool true)
            have hsbw : w.heap.size ≤ sb := (HF4.out.lt sb rfl).1
            have hB5 : Below w.heap.size w (wz.setCell ⟨sb, b, none⟩ (.bool true)) := HB4.out.setCell (p := ⟨sb, b, none⟩) hsbw _
            have hsz5 := hB5.size
            have cN5 := HC.out _ hO5 b hb
            rw [hw1] at cN5
            obtain ⟨k, hk⟩ : ∃ k, k = (nx.getD b 0).toNat := ⟨_, rfl⟩
            rw [← hk] at cN5 hw2 hw3 HRF2
            clear hw1 cN hk
            have hsz6 : (wz.setCell ⟨sb, b, none⟩ (.bool true)).heap.size = wz.heap.size := by simp
            go_wp2_with (at_builtin; refine wpList_append_lies _ rfl _ _ 36 rfl w.heap.size 3 i0 (.int .i64 0) 1 8 Tryz.underlying36 hI0 hz0 hz1 hz2 rfl (by decide) _ l.length _ rfl (hR5.alloc _) ⟨wz.heap.size, 0, none⟩ 1 1 [.int .i64 (b : Int)] rfl rfl ?c1 ?c2 (by decide) ?c3 ?c4 ?c5 _ rfl ?_)
            case c1 =>
              have q := whole_new (wz.setCell ⟨sb, b, none⟩ (.bool true)) (.cells #[.int .i64 (b : Int)] 3 (0, 0))
              rw [hsz6] at q
              exact World.news_of_block (cs := #[.int .i64 (b : Int)]) (t := 3) (fr := (0, 0)) q
            case c2 => first | rfl | (intro u hu; simp at hu; subst hu; rfl)
            case c3 => unfold maxLen; omega
            case c4 => omega
            case c5 => first | omega | (simp; omega)
            intro g4 cap4 x4 hown4 hgrow4 hat4 hlt4
            have hB6 : Below w.heap.size w x4 := (hB5.alloc hsz5 _).grown hgrow4 (by simp at hsz5 ⊢; omega) (fun q hq => (hR5.lt q hq).1)
            have hgz : g < wz.heap.size := (HO4.out.lt g rfl).2
            have hsz : sb < wz.heap.size := (HF4.out.lt sb rfl).2
            have HO6 : Hid (x4.ownsRow w.heap.size 3 1 (.slice (some ⟨g, 0, none⟩) ws.length nc) ws.length (nx.map zV)) := owns_same (hO5.alloc (.cells #[.int .i64 (b : Int)] 3)) (fun q hq => by
              simp [Value.ownBlock] at hq
              subst hq
              exact hgrow4.block g (by simp; omega) (fun e => HNE.out g e.symm rfl))
            have HF6 : Hid (x4.ownsRow w.heap.size 4 1 (.slice (some ⟨sb, 0, none⟩) ws.length ws.length) ws.length ((fs.set b true).map bV)) := by
              show World.ownsRow _ _ _ _ _ _ _
              rw [List.map_set]
              exact owns_same (hF5.alloc (.cells #[.int .i64 (b : Int)] 3)) (fun q hq => by
                simp [Value.ownBlock] at hq
                subst hq
                exact hgrow4.block sb (by simp; omega) (fun e => rows_ne hR5 hF5 (by decide) sb rfl e.symm))
            have HNE6 : Hid (∀ q, (Value.slice (some ⟨g4, 0, none⟩) (l.length + 1) cap4).ownBlock = some q → q ≠ g) := by
              intro q hq
              simp [Value.ownBlock] at hq
              subst hq
              rcases hat4 with h9 | h9
              · exact HNE.out _ h9
              · omega
            have HR6 : Hid (x4.ownsRow w.heap.size 3 1 (.slice (some ⟨g4, 0, none⟩) (l.length + 1) cap4) (l ++ [b]).length ((l ++ [b]).map iV)) := by
              show World.ownsRow _ _ _ _ _ _ _
              simpa [iV] using hown4
            have HB6 : Hid (Below w.heap.size w x4) := hB6
            have cN6 := HC.out _ HO6.out b hb
            have cN5' : x4.cell? ⟨g, b, none⟩ = some (.int .i64 (k : Int)) := by
              rw [cN6]
              have := HC.out _ hO5 b hb
              rw [this] at cN5
              exact cN5
            clear hgrow4 hown4 hat4 hB6 hF5 hO5 hR5 hB5 cN5 cN6 cF zF
            go_wp2_with fail
            go_roundg (ws.length - cntB (fs.set b true) + 1)
            case measure => omega
            case rel => exact ⟨l ++ [b], fs.set b true, k, _, rfl, rfl, rfl, by simpa using hfl, by rw [hcs, List.length_append]; simp; omega, HM2, hw2, hw3, (by show _ = _; rw [List.length_append]; simpa [show ws.length + 1 - (l.length + 1) = ws.length - l.length from by omega] using HRF2.out), HR6, HF6, HO6, HNE6, HB6⟩
end Go.Proofs.YtanknpmojblmcaaGreatDoor

/-
  Package link: Ring.
-/
set_option linter.unusedSimpArgs false
set_option linter.unusedVariables false
namespace Go.Proofs.YtanknpmojblmcaaGreatDoor
open Go.RowKit

def waitsL (own : List GV) (hs : List HV) : List (List Nat) := hs.map fun h => waitS own h.want
theorem waitS_lt (own : List GV) : ∀ (S : List Stp) (j : Nat), j ∈ waitS own S → j < own.length := by
  intro S
  induction S with
  | nil => intro j h; simp [waitS] at h
  | cons x r ih =>
    intro j h
    simp only [waitS] at h
    split at h
    · split at h
      · rename_i i hi
        rcases List.mem_cons.mp h with e | e
        · rw [e]; exact (latN_lt hi).1
        · exact ih j e
      · exact ih j h
    · exact ih j h

theorem infoIntsL : (Tryz.prog.info? 36).map (fun i => (i.zero, i.size, i.bytes)) = some (some (.slice none 0 0), 1, 24) := by kernel_rfl

set_option maxRecDepth 100000 in
set_option maxHeartbeats 2000000 in
theorem lkRing (u t : Value) (own : List GV) (hs : List HV) (w : World) (hO : Gs u own w) (hH : HdL t hs w) (hm : own.length = hs.length) (hn : hs.length ≤ 100) (hok : ∀ x ∈ hs, HOK x) :
    Calls Tryz.prog 23 #[u, t] w fun e w' => ∃ x, e = .returned x ∧ w'.ownsRow w.heap.size 3 1 x (ringF (waitsL own hs)).length ((ringF (waitsL own hs)).map iV) ∧ Below w.heap.size w w' := by
  obtain ⟨i0, hI0, hz0, hz1, hz2⟩ := info_parts infoIntsL
  obtain ⟨a', c', rfl⟩ := hO.form
  obtain ⟨ta, tc, rfl⟩ := hH.form
  have HH : Hid (HdL (.slice ta hs.length tc) hs w) := hH
  have HO : Hid (Gs (.slice a' own.length c') own w) := hO
  have HOKs : Hid (∀ x ∈ hs, HOK x) := hok
  have HM : Hid (own.length = hs.length) := hm
  have hml : own.length ≤ 100 := by omega
  clear hH hok hO hm
  go_enter Tryz.func23, Tryz.ntmps23
  go_wp2_with fail
  go_loopg [5, 11] (hs.length + 1) (fun r lv x wr => ∃ (n : Nat) (vs : List Value) (wz : World), wz = wr ∧ n ≤ hs.length ∧ r = hs.length - n + 1 ∧ x = .int .i64 (n : Int) ∧ vs.length = n ∧ Hid (wz.ownsRow w.heap.size 36 1 lv n vs) ∧ Hid (∀ k, k < n → wz.ownsRow w.heap.size 3 1 (vs.getD k (.slice none 0 0)) (waitS own (hs.getD k hv0).want).length ((waitS own (hs.getD k hv0).want).map iV)) ∧ Hid (∀ v ∈ vs, v.oneCell' = true) ∧ Hid (Below w.heap.size w wz))
  case atStart => exact ⟨0, [], _, rfl, Nat.zero_le _, rfl, rfl, rfl, World.ownsRow_nil _ _ _ _, (fun k hk => by omega), (fun v hv => by simp at hv), Below.refl _ _⟩
  case round =>
    obtain ⟨n, vs, wz, rfl, hnn, rfl, rfl, hvl, HR, HN, HV, HB⟩ := hrel
    obtain ⟨la, lc, rfl⟩ := row_formL HR.out
    by_cases hlt : n < hs.length
    · have hlt' : (n : Int) < (hs.length : Int) := by omega
      rcases HH.out with ⟨_, he⟩ | ⟨b, cap, qs, hv, hcap, hb, hcell⟩
      · rw [he] at hlt; simp at hlt
      cases hv
      have hcl : ∀ j, j < 12 → wz.cell? ⟨b, n * 12 + j, none⟩ = (hvC hs[n] (qs n))[j]? := fun j hj => (HB.out.cell hb).trans ((hcell n hlt).2 j hj)
      have l0 := hcl 0 (by omega); have l1 := hcl 1 (by omega); have l2 := hcl 2 (by omega); have l3 := hcl 3 (by omega); have l4 := hcl 4 (by omega); have l5 := hcl 5 (by omega)
      have l6 := hcl 6 (by omega); have l7 := hcl 7 (by omega); have l8 := hcl 8 (by omega); have l9 := hcl 9 (by omega); have l10 := hcl 10 (by omega); have l11 := hcl 11 (by omega)
      obtain ⟨qa, qc, hq⟩ := (hcell n hlt).1.form
      have HSs : Hid (Ss (qs n) hs[n].want w) := Ss.of (hcell n hlt).1
      generalize qs n = q at *
      subst hq
      simp [hvC] at l0 l1 l2 l3 l4 l5 l6 l7 l8 l9 l10 l11
      have hg1 : HOK hs[n] := HOKs.out _ (List.getElem_mem hlt)
      have HGD : Hid (hs.getD n hv0 = hs[n]) := by show _ = _; simp [hlt]
      clear hcl hcell
      generalize hs[n] = h at *
      have HX : Hid (Below wz.heap.size wz (wz.alloc (.cells #[.string (bs h.name), .int .i64 (h.nodes : Int), .int .i64 (h.time : Int), .bool h.arr, .int .i64 (h.lo : Int), .int .i64 (h.hi : Int), .string (bs h.after), .slice qa h.want.length qc, .int .i64 (h.nameAt : Int), .int .i64 (h.nodesAt : Int), .int .i64 (h.timeAt : Int), .int .i64 (h.arrayAt : Int)] 64))) := (Below.refl _ wz).alloc (Nat.le_refl _) _
      go_wp2_with fail
      generalize wz.alloc (.cells #[.string (bs h.name), .int .i64 (h.nodes : Int), .int .i64 (h.time : Int), .bool h.arr, .int .i64 (h.lo : Int), .int .i64 (h.hi : Int), .string (bs h.after), .slice qa h.want.length qc, .int .i64 (h.nameAt : Int), .int .i64 (h.nodesAt : Int), .int .i64 (h.timeAt : Int), .int .i64 (h.arrayAt : Int)] 64) = X at *
      have HBX : Hid (Below w.heap.size w X) := HB.out.trans (HX.out.mono HB.out.size)
      clear l0 l1 l2 l3 l4 l5 l6 l7 l8 l9 l10 l11
      refine (lkWaitsFor (.slice a' own.length c') own h (.slice qa h.want.length qc) X (HO.out.below HBX.out) (HSs.out.below HBX.out) (by omega) hg1).mono ?_
      rintro e x1 ⟨nv, rfl, hown1, hX1⟩
      have HB1 : Hid (Below w.heap.size w x1) := HBX.out.trans (hX1.mono HBX.out.size)
      have hZ1 : Below wz.heap.size wz x1 := HX.out.trans (hX1.mono HX.out.size)
      have hR1 := owns_below HR.out hZ1
      have HN1 : Hid (∀ k, k < n → x1.ownsRow w.heap.size 3 1 (vs.getD k (.slice none 0 0)) (waitS own (hs.getD k hv0).want).length ((waitS own (hs.getD k hv0).want).map iV)) := fun k hk => owns_below (HN.out k hk) hZ1
      have HNn : Hid (x1.ownsRow w.heap.size 3 1 nv (waitS own h.want).length ((waitS own h.want).map iV)) := ownsRow_base hown1 HBX.out.size
      obtain ⟨na, nc, rfl⟩ := row_formL hown1
      obtain ⟨W, hW⟩ : ∃ W, waitS own h.want = W := ⟨_, rfl⟩
      have HW : Hid (waitS own h.want = W) := hW
      rw [hW] at HNn ⊢
      clear hW
      have hsz1 := HB1.out.size
      clear hown1 hX1 hZ1 HR HN HB HBX HX
      go_wp2_with (at_builtin; refine wpList_append_lies _ rfl _ _ 115 rfl w.heap.size 36 i0 (.slice none 0 0) 1 24 Tryz.underlying115 hI0 hz0 hz1 hz2 rfl (by decide) _ n _ rfl (hR1.alloc _) ⟨x1.heap.size, 0, none⟩ 1 1 [.slice na W.length nc] rfl rfl (World.news_of_block (cs := #[.slice na W.length nc]) (t := 36) (fr := (0, 0)) (heap_alloc_new x1 _)) ?c2 (by decide) ?c3 ?c4 ?c5 _ rfl ?_)
      case c2 => first | rfl | (intro u hu; simp at hu; subst hu; rfl)
      case c3 => unfold maxLen; omega
      case c4 => omega
      case c5 => first | omega | (simp; omega)
      intro g4 cap4 x4 hown4 hgrow4 hat4 hlt4
      have HB4 : Hid (Below w.heap.size w x4) := (HB1.out.alloc hsz1 _).grown hgrow4 (by simp; omega) (fun q hq => (hR1.lt q hq).1)
      have HN4 : Hid (∀ k, k < n + 1 → x4.ownsRow w.heap.size 3 1 ((vs ++ [Value.slice na W.length nc]).getD k (.slice none 0 0)) (waitS own (hs.getD k hv0).want).length ((waitS own (hs.getD k hv0).want).map iV)) := by
        have move : ∀ (v : Value) (js : List Nat), x1.ownsRow w.heap.size 3 1 v js.length (js.map iV) → x4.ownsRow w.heap.size 3 1 v js.length (js.map iV) := by
          intro v js hv
          exact owns_same (hv.alloc (Obj.cells #[Value.slice na W.length nc] 36)) (fun q hq => hgrow4.block q (by have := (hv.lt q hq).2; simp; omega) (fun e => rows_ne hR1 hv (by decide) q hq e.symm))
        intro k hk
        by_cases e : k = n
        · subst e
          rw [HGD.out, HW.out]
          have e2 : (vs ++ [Value.slice na W.length nc]).getD vs.length (Value.slice none 0 0) = Value.slice na W.length nc := by simp
          rw [← hvl, e2]
          exact move _ _ HNn.out
        · have e2 : (vs ++ [Value.slice na W.length nc]).getD k (.slice none 0 0) = vs.getD k (.slice none 0 0) := by
            rw [List.getD_eq_getElem?_getD, List.getElem?_append_left (by omega), ← List.getD_eq_getElem?_getD]
          rw [e2]
          exact move _ _ (HN1.out k (by omega))
      have HV4 : Hid (∀ v ∈ vs ++ [Value.slice na W.length nc], v.oneCell' = true) := by
        intro v hv
        rcases List.mem_append.mp hv with q | q
        · exact HV.out v q
        · simp at q; subst q; rfl
      have HR4 : Hid (x4.ownsRow w.heap.size 36 1 (.slice (some ⟨g4, 0, none⟩) (n + 1) cap4) (n + 1) (vs ++ [Value.slice na W.length nc])) := hown4
      clear hgrow4 hown4 hat4 hR1
      go_wp2_with fail
      go_roundg (hs.length - (n + 1) + 1)
      case measure => omega
      case rel => exact ⟨n + 1, vs ++ [Value.slice na W.length nc], _, rfl, by omega, rfl, by go_num, by simp; omega, HR4, HN4, HV4, HB4⟩
    · have hlt' : ¬ (n : Int) < (hs.length : Int) := by omega
      have hnl : n = hs.length := by omega
      subst hnl
      have HWL : Hid (Ws (.slice la hs.length lc) (waitsL own hs) wz) := by
        show Ws _ _ _
        have hwl : (waitsL own hs).length = hs.length := by simp [waitsL]
        rcases HR.out.2 with ⟨q1, q2⟩ | ⟨g', cap', cur, q1, _, q2, q3, _⟩
        · exact Or.inl ⟨q1, List.eq_nil_of_length_eq_zero (by omega)⟩
        · cases q1
          refine Or.inr ⟨g', lc, fun k => vs.getD k (.slice none 0 0), by rw [hwl], by omega, whole_lt q2, ?_⟩
          intro k hk
          have hk' : k < hs.length := by omega
          have hkv : k < vs.length := by omega
          constructor
          · rw [HR.out.cellAt k (by omega)]
            simp [hkv]
          · have q := Ns.of (HN.out k hk')
            have e : (waitsL own hs)[k] = waitS own (hs.getD k hv0).want := by simp [waitsL, hk']
            rw [e]; exact q
      have hwl : (waitsL own hs).length = hs.length := by simp [waitsL]
      have HWJ : Hid (∀ l ∈ waitsL own hs, l.length ≤ 1000 ∧ ∀ j ∈ l, j < (waitsL own hs).length) := by
        intro l hl
        unfold waitsL at hl
        obtain ⟨h, h1, rfl⟩ := List.mem_map.mp hl
        have q := waitS_len own h.want
        have q2 := (HOKs.out h h1).ln
        exact ⟨by omega, fun j hj => by have := waitS_lt own h.want j hj; have := HM.out; rw [hwl]; omega⟩
      go_wp2_with fail
      refine (lkRingOf _ (waitsL own hs) wz HWL.out (by omega) HWJ.out).mono ?_
      rintro e x1 ⟨nv, rfl, hown1, hX1⟩
      have HB1 : Hid (Below w.heap.size w x1) := HB.out.trans (hX1.mono HB.out.size)
      have HR1 : Hid (x1.ownsRow w.heap.size 3 1 nv (ringF (waitsL own hs)).length ((ringF (waitsL own hs)).map iV)) := ownsRow_base hown1 HB.out.size
      clear hown1 hX1
      go_wp2_with fail
      go_ret
      exact ⟨_, rfl, HR1.out, HB1.out⟩
end Go.Proofs.YtanknpmojblmcaaGreatDoor

/-
  Codes and their values, as plain functions. Nothing of a program is imported.
-/
namespace Go.Proofs.YtanknpmojblmcaaGreatDoor

def vAnd (a b : Nat) : Nat := if a = 2 ∨ b = 2 then 2 else if a = 1 ∧ b = 1 then 1 else 0
def vOr (a b : Nat) : Nat := if a = 1 ∨ b = 1 then 1 else if a = 2 ∧ b = 2 then 2 else 0
def knw (b : Bool) : Nat := if b then 1 else 2
/-- What the program tells of a job in the state s. -/
def vP (op : Nat) (s : Int) : Nat :=
  if s < 3 then 0 else if op = 1 then knw (s == 3) else if op = 2 then knw (s != 6) else if op = 3 then knw (s == 4 || s == 5) else 1
/-- What the document tells. -/
def vR (op : Nat) (s : Int) : Nat :=
  if s ≠ 3 ∧ s ≠ 4 ∧ s ≠ 5 ∧ s ≠ 6 then 0 else if op = 4 then 1 else if op = 1 ∧ s = 3 then 1 else if op = 2 ∧ s ≠ 6 then 1 else if op = 3 ∧ (s = 4 ∨ s = 5) then 1 else 2
theorem vP_vR {op : Nat} {s : Int} (h1 : 1 ≤ op) (h2 : op ≤ 4) (h3 : 0 ≤ s) (h4 : s ≤ 6) : vP op s = vR op s := by
  obtain ⟨n, rfl⟩ : ∃ n : Nat, s = n := ⟨s.toNat, by omega⟩
  have : n = 0 ∨ n = 1 ∨ n = 2 ∨ n = 3 ∨ n = 4 ∨ n = 5 ∨ n = 6 := by omega
  have : op = 1 ∨ op = 2 ∨ op = 3 ∨ op = 4 := by omega
  rcases this with rfl | rfl | rfl | rfl <;> rcases ‹n = 0 ∨ _› with rfl | rfl | rfl | rfl | rfl | rfl | rfl <;> rfl

def asksB (op : Nat) : Bool := decide (1 ≤ op) && decide (op ≤ 4)
/-- The program's machine: the stack (its top first), how many jobs are asked for, whether it broke. -/
def layM (v : Nat) (m : List Nat × Nat × Bool) : List Nat × Nat × Bool := if 24 ≤ m.1.length then (m.1, m.2.1, true) else (v :: m.1, m.2.1, m.2.2)
def joinV (op a b : Nat) : Nat := if op = 5 then vAnd a b else vOr a b
def joinM (op : Nat) (m : List Nat × Nat × Bool) : List Nat × Nat × Bool :=
  match m.1 with
  | b :: a :: S => layM (joinV op a b) (S, m.2.1, m.2.2)
  | _ => (m.1, m.2.1, true)
def plainM (op : Nat) (m : List Nat × Nat × Bool) : List Nat × Nat × Bool :=
  if op = 0 then layM 1 m else if op = 5 ∨ op = 6 then joinM op m else (m.1, m.2.1, true)
def askA (j a : Nat) : Nat := if a ≤ j then j + 1 else a
def askV (ns : List Int) (op j : Nat) : Nat := if j < ns.length then vP op (ns.getD j 0) else 0
def askM (ns : List Int) (op j : Nat) (m : List Nat × Nat × Bool) : List Nat × Nat × Bool :=
  if 24 ≤ j then (m.1, m.2.1, true) else layM (askV ns op j) (m.1, askA j m.2.1, m.2.2)
def runM (ns : List Int) : List UInt8 → List Nat × Nat × Bool → List Nat × Nat × Bool
  | [], m => m
  | op :: R, m => if m.2.2 then m else if asksB op.toNat then (match R with
      | [] => (m.1, m.2.1, true)
      | j :: R' => runM ns R' (askM ns op.toNat j.toNat m)) else runM ns R (plainM op.toNat m)
theorem runM_broken (ns : List Int) (L : List UInt8) (S : List Nat) (a : Nat) : runM ns L (S, a, true) = (S, a, true) := by
  cases L with
  | nil => rfl
  | cons op R => rw [runM.eq_def]; rfl
theorem runM_plain (ns : List Int) (op : UInt8) (R : List UInt8) (S : List Nat) (a : Nat) (h : ¬ asksB op.toNat = true) : runM ns (op :: R) (S, a, false) = runM ns R (plainM op.toNat (S, a, false)) := by
  rw [runM.eq_def]; simp [h]
theorem runM_ask (ns : List Int) (op j : UInt8) (R : List UInt8) (S : List Nat) (a : Nat) (h : asksB op.toNat = true) : runM ns (op :: j :: R) (S, a, false) = runM ns R (askM ns op.toNat j.toNat (S, a, false)) := by
  rw [runM.eq_def]; simp [h]
theorem runM_lack (ns : List Int) (op : UInt8) (S : List Nat) (a : Nat) (h : asksB op.toNat = true) : runM ns [op] (S, a, false) = (S, a, true) := by
  rw [runM.eq_def]; simp [h]

def areS (ns : List Int) : Bool := decide (ns.length ≤ 24) && ns.all (fun s => decide (0 ≤ s) && decide (s ≤ 6))
def runE (L : List UInt8) (ns : List Int) : Nat × Nat :=
  if 8000 < L.length then (0, 9)
  else if (runM ns L ([], 0, false)).2.2 = true ∨ (runM ns L ([], 0, false)).1.length ≠ 1 then (0, 9)
  else if ns.length < (runM ns L ([], 0, false)).2.1 ∨ areS ns = false then (0, 10)
  else ((runM ns L ([], 0, false)).1.getD 0 0, 0)

/-- The document: the operations of some bytes. -/
def opsR : List UInt8 → Option (List (Nat × Nat))
  | [] => some []
  | op :: R => if 6 < op.toNat then none else if asksB op.toNat then (match R with
      | [] => none
      | j :: R' => if 24 ≤ j.toNat then none else (opsR R').map ((op.toNat, j.toNat) :: ·)) else (opsR R).map ((op.toNat, 0) :: ·)
/-- How high the stack is behind them; none where it may not be so. -/
def stepH (op n : Nat) : Nat := if op = 5 ∨ op = 6 then n - 1 else n + 1
def finR : List (Nat × Nat) → Nat → Option Nat
  | [], n => some n
  | x :: R, n => if stepH x.1 n < 1 ∨ 24 < stepH x.1 n then none else finR R (stepH x.1 n)
/-- The stack behind some operations. -/
def opS (f : Nat → Nat → Nat) (x : Nat × Nat) (S : List Nat) : List Nat :=
  if x.1 = 0 then 1 :: S else if x.1 = 5 ∨ x.1 = 6 then (match S with
    | b :: a :: S' => joinV x.1 a b :: S'
    | _ => S) else f x.1 x.2 :: S
def stkR (f : Nat → Nat → Nat) : List (Nat × Nat) → List Nat → List Nat
  | [], S => S
  | x :: R, S => stkR f R (opS f x S)
def askd : List (Nat × Nat) → Nat → Nat
  | [], a => a
  | x :: R, a => askd R (if asksB x.1 then askA x.2 a else a)
def docV (ns : List Int) (op j : Nat) : Nat := vR op (ns.getD j 0)
def jobsOK (l : List (Nat × Nat)) (n : Nat) : Bool := l.all fun x => !(asksB x.1) || decide (x.2 < n)
def refE (L : List UInt8) (ns : List Int) : Nat × Nat :=
  if 8000 < L.length then (0, 9)
  else match opsR L with
    | none => (0, 9)
    | some l => if finR l 0 ≠ some 1 then (0, 9) else if areS ns = false then (0, 10) else if jobsOK l ns.length = false then (0, 10) else ((stkR (docV ns) l []).getD 0 0, 0)

theorem stkR_append (f : Nat → Nat → Nat) (l k : List (Nat × Nat)) (S : List Nat) : stkR f (l ++ k) S = stkR f k (stkR f l S) := by
  induction l generalizing S with
  | nil => rfl
  | cons x r ih => exact ih _

/-- The machine goes on as the document's heights do. -/
theorem opS_len (f : Nat → Nat → Nat) (x : Nat × Nat) (S : List Nat) (h : ¬ (stepH x.1 S.length < 1 ∨ 24 < stepH x.1 S.length)) : (opS f x S).length = stepH x.1 S.length := by
  unfold opS
  unfold stepH at *
  by_cases h0 : x.1 = 0
  · rw [if_pos h0, if_neg (by omega)]; rfl
  · rw [if_neg h0]
    by_cases h5 : x.1 = 5 ∨ x.1 = 6
    · rw [if_pos h5] at h ⊢
      rw [if_pos h5]
      match S, h with
      | [], h => simp at h
      | [a], h => simp at h
      | b :: a :: S', h => simp
    · rw [if_neg h5, if_neg h5]; rfl
theorem stkR_len (f : Nat → Nat → Nat) : ∀ (l : List (Nat × Nat)) (S : List Nat) (h : Nat), finR l S.length = some h → (stkR f l S).length = h
  | [], S, h, e => by simpa [finR, stkR] using e
  | x :: R, S, h, e => by
    unfold finR at e
    split at e
    · cases e
    · rename_i hn
      have q := opS_len f x S hn
      exact stkR_len f R (opS f x S) h (by rw [q]; exact e)

theorem one_step (ns : List Int) (op j : Nat) (S : List Nat) (a : Nat) (hop : op ≤ 6) (hj : asksB op = true → j < 24) (hS : S.length ≤ 24) :
    (if asksB op then askM ns op j (S, a, false) else plainM op (S, a, false)) =
    (if stepH op S.length < 1 ∨ 24 < stepH op S.length then ((if asksB op then askM ns op j (S, a, false) else plainM op (S, a, false)).1, (if asksB op then askM ns op j (S, a, false) else plainM op (S, a, false)).2.1, true)
     else (opS (askV ns) (op, j) S, (if asksB op then askA j a else a), false)) := by
  have ho : op = 0 ∨ op = 1 ∨ op = 2 ∨ op = 3 ∨ op = 4 ∨ op = 5 ∨ op = 6 := by omega
  by_cases hb : op = 5 ∨ op = 6
  · have hab : asksB op = false := by rcases hb with rfl | rfl <;> rfl
    have h0 : ¬ op = 0 := by omega
    simp only [hab, plainM, stepH, opS, if_pos hb, if_neg h0, joinM, layM]
    match S, hS with
    | [], _ => simp
    | [c], _ => simp
    | c :: d :: S', hS =>
      simp at hS
      have e1 : ¬ 24 ≤ S'.length := by omega
      have e2 : ¬ 24 < S'.length + 1 := by omega
      simp [e1, e2]
  · by_cases h0 : op = 0
    · subst h0
      have hab : asksB 0 = false := rfl
      simp only [hab, plainM, stepH, opS, layM]
      by_cases hl : 24 ≤ S.length
      · have e2 : 24 < S.length + 1 := by omega
        simp [hl, e2]
      · have e2 : ¬ 24 < S.length + 1 := by omega
        simp [hl, e2]
    · have hab : asksB op = true := by simp [asksB]; omega
      have e0 : ¬ 24 ≤ j := by have := hj hab; omega
      simp only [hab, askM, stepH, opS, layM, if_neg h0, if_neg hb, if_neg e0]
      by_cases hl : 24 ≤ S.length
      · have e2 : 24 < S.length + 1 := by omega
        simp [hl, e2]
      · have e2 : ¬ 24 < S.length + 1 := by omega
        simp [hl, e2]

theorem run_none (ns : List Int) : ∀ (L : List UInt8) (m : List Nat × Nat × Bool), opsR L = none → (runM ns L m).2.2 = true
  | [], m, h => by simp [opsR] at h
  | op :: R, m, h => by
    unfold opsR at h
    unfold runM
    by_cases hm : m.2.2 = true
    · rw [if_pos hm]; exact hm
    rw [if_neg hm]
    by_cases hop : 6 < op.toNat
    · have hab : asksB op.toNat = false := by simp [asksB]; omega
      have e : plainM op.toNat m = (m.1, m.2.1, true) := by
        unfold plainM; rw [if_neg (by omega), if_neg (by omega)]
      rw [hab, if_neg (by simp), e, runM_broken]
    · rw [if_neg hop] at h
      by_cases hab : asksB op.toNat = true
      · rw [if_pos hab] at h ⊢
        match R, h with
        | [], h => rfl
        | j :: R', h =>
          dsimp only at h ⊢
          by_cases hj : 24 ≤ j.toNat
          · have e : askM ns op.toNat j.toNat m = (m.1, m.2.1, true) := by unfold askM; rw [if_pos hj]
            rw [e, runM_broken]
          · rw [if_neg hj] at h
            exact run_none ns R' _ (by simpa using h)
      · rw [if_neg hab] at h ⊢
        exact run_none ns R _ (by simpa using h)

theorem run_some (ns : List Int) : ∀ (L : List UInt8) (l : List (Nat × Nat)) (S : List Nat) (a : Nat), S.length ≤ 24 → opsR L = some l →
    (finR l S.length = none → (runM ns L (S, a, false)).2.2 = true) ∧
    (∀ h, finR l S.length = some h → runM ns L (S, a, false) = (stkR (askV ns) l S, askd l a, false))
  | [], l, S, a, hS, h => by
    simp [opsR] at h; subst h
    simp [finR, runM, stkR, askd]
  | op :: R, l, S, a, hS, h => by
    unfold opsR at h
    by_cases hop : 6 < op.toNat
    · rw [if_pos hop] at h; cases h
    rw [if_neg hop] at h
    have key : ∀ (R' : List UInt8) (l' : List (Nat × Nat)) (j : Nat), (asksB op.toNat = true → j < 24) → R'.length ≤ R.length → opsR R' = some l' → l = (op.toNat, j) :: l' →
        runM ns (op :: R) (S, a, false) = runM ns R' (if asksB op.toNat then askM ns op.toNat j (S, a, false) else plainM op.toNat (S, a, false)) →
        (finR l S.length = none → (runM ns (op :: R) (S, a, false)).2.2 = true) ∧
        (∀ h, finR l S.length = some h → runM ns (op :: R) (S, a, false) = (stkR (askV ns) l S, askd l a, false)) := by
      intro R' l' j hj hR hl' hl hrun
      subst hl
      have st := one_step ns op.toNat j S a (by omega) hj hS
      rw [hrun]
      by_cases hc : stepH op.toNat S.length < 1 ∨ 24 < stepH op.toNat S.length
      · rw [if_pos hc] at st
        constructor
        · intro _
          rw [st, runM_broken]
        · intro h hf
          unfold finR at hf
          rw [if_pos hc] at hf; cases hf
      · rw [if_neg hc] at st
        have hlen := opS_len (askV ns) (op.toNat, j) S hc
        have ih := run_some ns R' l' (opS (askV ns) (op.toNat, j) S) (if asksB op.toNat then askA j a else a) (by rw [hlen]; show stepH op.toNat S.length ≤ 24; omega) hl'
        rw [hlen] at ih
        have ef : finR ((op.toNat, j) :: l') S.length = finR l' (stepH op.toNat S.length) := by
          rw [finR]; exact if_neg hc
        rw [ef, st]
        exact ih
    by_cases hab : asksB op.toNat = true
    · rw [if_pos hab] at h
      match R, h, key with
      | [], h, key => cases h
      | j :: R', h, key =>
        dsimp only at h
        by_cases hj : 24 ≤ j.toNat
        · rw [if_pos hj] at h; cases h
        · rw [if_neg hj] at h
          cases hq : opsR R' with
          | none => rw [hq] at h; cases h
          | some l' =>
            rw [hq] at h
            simp at h
            exact key R' l' j.toNat (fun _ => by omega) (by simp) hq h.symm (by rw [runM_ask _ _ _ _ _ _ hab, if_pos hab])
    · rw [if_neg hab] at h
      cases hq : opsR R with
      | none => rw [hq] at h; cases h
      | some l' =>
        rw [hq] at h
        simp at h
        exact key R l' 0 (fun _ => by omega) (Nat.le_refl _) hq h.symm (by rw [runM_plain _ _ _ _ _ hab, if_neg hab])
termination_by L => L.length
decreasing_by all_goals (simp only [List.length_cons]; omega)

theorem askd_le (l : List (Nat × Nat)) : ∀ (a n : Nat), a ≤ n → (askd l a ≤ n ↔ jobsOK l n = true) := by
  induction l with
  | nil => intro a n h; simp [askd, jobsOK, h]
  | cons x r ih =>
    intro a n h
    unfold askd
    have hm : ∀ (a : Nat), a ≤ askd r a := by
      clear ih h
      induction r with
      | nil => intro a; exact Nat.le_refl _
      | cons y q ih =>
        intro a
        unfold askd
        refine Nat.le_trans ?_ (ih _)
        unfold askA; split
        · split <;> omega
        · omega
    by_cases hx : asksB x.1 = true
    · rw [if_pos hx]
      by_cases hj : x.2 < n
      · rw [ih _ n (by unfold askA; split <;> omega)]
        simp [jobsOK, hx, hj]
      · constructor
        · intro h2
          have := hm (askA x.2 a)
          have h3 : x.2 + 1 ≤ askA x.2 a := by unfold askA; split <;> omega
          omega
        · intro h2
          simp [jobsOK, hx, hj] at h2
    · rw [if_neg hx, ih a n h]
      simp only [Bool.not_eq_true] at hx
      simp [jobsOK, hx]

theorem stk_same (ns : List Int) (hS : areS ns = true) : ∀ (l : List (Nat × Nat)) (S : List Nat), (∀ x ∈ l, x.1 ≤ 6) → jobsOK l ns.length = true → stkR (askV ns) l S = stkR (docV ns) l S := by
  intro l
  induction l with
  | nil => intro S _ _; rfl
  | cons x r ih =>
    intro S h6 hj
    simp only [jobsOK, List.all_cons, Bool.and_eq_true] at hj
    unfold stkR
    have e : opS (askV ns) x S = opS (docV ns) x S := by
      unfold opS
      by_cases h0 : x.1 = 0
      · rw [if_pos h0, if_pos h0]
      · rw [if_neg h0, if_neg h0]
        by_cases hb : x.1 = 5 ∨ x.1 = 6
        · rw [if_pos hb, if_pos hb]
        · rw [if_neg hb, if_neg hb]
          have h6' := h6 x (by simp)
          have ha : asksB x.1 = true := by simp [asksB]; omega
          have hlt : x.2 < ns.length := by have := hj.1; rw [ha] at this; simpa using this
          have hs : 0 ≤ ns.getD x.2 0 ∧ ns.getD x.2 0 ≤ 6 := by
            simp [areS] at hS
            have := hS.2 (ns[x.2]) (List.getElem_mem hlt)
            simpa [List.getD_eq_getElem?_getD, List.getElem?_eq_getElem hlt] using this
          congr 1
          unfold askV docV
          rw [if_pos hlt]
          exact vP_vR (by omega) (by omega) hs.1 hs.2
    rw [e]
    exact ih _ (fun y hy => h6 y (by simp [hy])) hj.2

theorem ops_six : ∀ (L : List UInt8) (l : List (Nat × Nat)), opsR L = some l → ∀ x ∈ l, x.1 ≤ 6
  | [], l, h => by simp [opsR] at h; subst h; simp
  | op :: R, l, h => by
    unfold opsR at h
    by_cases hop : 6 < op.toNat
    · rw [if_pos hop] at h; cases h
    rw [if_neg hop] at h
    by_cases hab : asksB op.toNat = true
    · rw [if_pos hab] at h
      match R, h with
      | [], h => cases h
      | j :: R', h =>
        dsimp only at h
        by_cases hj : 24 ≤ j.toNat
        · rw [if_pos hj] at h; cases h
        · rw [if_neg hj] at h
          cases hq : opsR R' with
          | none => rw [hq] at h; cases h
          | some l' =>
            rw [hq] at h
            simp at h
            subst h
            intro x hx
            rcases List.mem_cons.1 hx with rfl | hx
            · show op.toNat ≤ 6; omega
            · exact ops_six R' l' hq x hx
    · rw [if_neg hab] at h
      cases hq : opsR R with
      | none => rw [hq] at h; cases h
      | some l' =>
        rw [hq] at h
        simp at h
        subst h
        intro x hx
        rcases List.mem_cons.1 hx with rfl | hx
        · show op.toNat ≤ 6; omega
        · exact ops_six R l' hq x hx

/-- The program's Exec is the document's. -/
theorem runE_refE (L : List UInt8) (ns : List Int) : runE L ns = refE L ns := by
  unfold runE refE
  by_cases hL : 8000 < L.length
  · rw [if_pos hL, if_pos hL]
  rw [if_neg hL, if_neg hL]
  cases ho : opsR L with
  | none => rw [if_pos (Or.inl (run_none ns L _ ho))]
  | some l =>
    obtain ⟨h1, h2⟩ := run_some ns L l [] 0 (by simp) ho
    dsimp only
    cases hf : finR l 0 with
    | none => rw [if_pos (Or.inl (h1 hf)), if_pos (by simp)]
    | some h =>
      have e := h2 h hf
      have hl := stkR_len (askV ns) l [] h hf
      rw [e]
      dsimp only
      by_cases h3 : h = 1
      · subst h3
        rw [if_neg (show ¬ (false = true ∨ (stkR (askV ns) l []).length ≠ 1) by simp [hl]), if_neg (show ¬ (some 1 ≠ some 1) by simp)]
        have hk := askd_le l 0 ns.length (by omega)
        by_cases hA : areS ns = true
        · have hA' : ¬ areS ns = false := by simp [hA]
          rw [if_neg hA']
          by_cases hj : jobsOK l ns.length = true
          · have q := hk.2 hj
            have hj' : ¬ jobsOK l ns.length = false := by simp [hj]
            rw [if_neg (show ¬ (ns.length < askd l 0 ∨ areS ns = false) by simp [hA]; omega), if_neg hj', stk_same ns hA l [] (ops_six L l ho) hj]
          · have q : ¬ askd l 0 ≤ ns.length := fun z => hj (hk.1 z)
            rw [if_pos (Or.inl (by omega)), if_pos (by simpa using hj)]
        · rw [if_pos (Or.inr (by simpa using hA)), if_pos (by simpa using hA)]
      · rw [if_pos (Or.inr (by rw [hl]; exact h3)), if_pos (by simpa using h3)]

end Go.Proofs.YtanknpmojblmcaaGreatDoor

/-
  And, Or, and what is told of one job: of the program and of the document.
-/
set_option linter.unusedSimpArgs false
set_option linter.unusedVariables false
namespace Go.Proofs.YtanknpmojblmcaaGreatDoor
open Go.RowKit

theorem retn {a : Nat} {b : Int} (h : b = (a : Int)) : Ending.returned (.int .i64 b) = .returned (.int .i64 (a : Int)) := by rw [h]

set_option maxHeartbeats 1000000 in
theorem vand_any (a b : Nat) (ha : a ≤ 2) (hb : b ≤ 2) (w : World) :
    Calls Tryz.prog 154 #[.int .i64 (a : Int), .int .i64 (b : Int)] w fun e w' => e = .returned (.int .i64 (vAnd a b : Int)) ∧ w' = w := by
  have h1 : a = 0 ∨ a = 1 ∨ a = 2 := by omega
  have h2 : b = 0 ∨ b = 1 ∨ b = 2 := by omega
  clear ha hb
  rcases h1 with rfl | rfl | rfl <;> rcases h2 with rfl | rfl | rfl
  all_goals
    go_enter Tryz.func154, Tryz.ntmps154
    go_wp2_with fail
    go_ret
    exact ⟨rfl, rfl⟩

set_option maxHeartbeats 1000000 in
theorem vor_any (a b : Nat) (ha : a ≤ 2) (hb : b ≤ 2) (w : World) :
    Calls Tryz.prog 155 #[.int .i64 (a : Int), .int .i64 (b : Int)] w fun e w' => e = .returned (.int .i64 (vOr a b : Int)) ∧ w' = w := by
  have h1 : a = 0 ∨ a = 1 ∨ a = 2 := by omega
  have h2 : b = 0 ∨ b = 1 ∨ b = 2 := by omega
  clear ha hb
  rcases h1 with rfl | rfl | rfl <;> rcases h2 with rfl | rfl | rfl
  all_goals
    go_enter Tryz.func155, Tryz.ntmps155
    go_wp2_with fail
    go_ret
    exact ⟨rfl, rfl⟩

set_option maxHeartbeats 400000 in
theorem known_any (b : Bool) (w : World) :
    Calls Tryz.prog 156 #[.bool b] w fun e w' => e = .returned (.int .i64 (knw b : Int)) ∧ w' = w := by
  cases b
  all_goals
    go_enter Tryz.func156, Tryz.ntmps156
    go_wp2_with fail
    go_ret
    exact ⟨rfl, rfl⟩

set_option maxHeartbeats 400000 in
theorem asksJob_any (op : Nat) (h : op < 256) (w : World) :
    Calls Tryz.prog 137 #[.int .i64 (op : Int)] w fun e w' => e = .returned (.bool (asksB op)) ∧ w' = w := by
  by_cases h1 : 1 ≤ op
  · have h1' : (1 : Int) ≤ (op : Int) := by omega
    go_enter Tryz.func137, Tryz.ntmps137
    go_wp2_with fail
    go_ret
    refine ⟨?_, rfl⟩
    by_cases h2 : op ≤ 4 <;> simp [asksB, h1] <;> omega
  · have h1' : decide ((1 : Int) ≤ (op : Int)) = false := by simp; omega
    go_enter Tryz.func137, Tryz.ntmps137
    go_wp2_with fail
    go_ret
    exact ⟨by simp [asksB, h1], rfl⟩

theorem beqF {a b : Int} (h : a ≠ b) : (a == b) = false := by rw [beq_eq_false_iff_ne]; exact h
theorem beqT {a b : Int} (h : a = b) : (a == b) = true := by rw [beq_iff_eq]; exact h

set_option maxHeartbeats 1000000 in
theorem ofJob_any (op : Nat) (s : Int) (h1 : 1 ≤ op) (h2 : op ≤ 4) (w : World) :
    Calls Tryz.prog 149 #[.int .i64 (op : Int), .int .i64 s] w fun e w' => e = .returned (.int .i64 (vP op s : Int)) ∧ ∃ n, w' = w.drewN n := by
  by_cases h3 : s < 3
  · go_enter Tryz.func149, Tryz.ntmps149
    go_wp2_with fail
    go_ret
    exact ⟨by simp [vP, h3], 0, rfl⟩
  · have h3' : decide (s < (3 : Int)) = false := by simp; omega
    have hop : op = 1 ∨ op = 2 ∨ op = 3 ∨ op = 4 := by omega
    clear h1 h2
    rcases hop with rfl | rfl | rfl | rfl
    · have HV : Hid (vP 1 s = knw (s == 3)) := by show vP 1 s = _; simp [vP, h3]
      clear h3
      go_enter Tryz.func149, Tryz.ntmps149
      go_wp2_with fail
      refine (known_any _ _).mono ?_
      rintro e w1 ⟨rfl, hw1⟩
      subst hw1
      go_wp2_with fail
      go_ret
      exact ⟨by rw [HV.out]; rfl, 0, rfl⟩
    · have HV : Hid (vP 2 s = knw (s != 6)) := by show vP 2 s = _; simp [vP, h3]
      clear h3
      go_enter Tryz.func149, Tryz.ntmps149
      go_wp2_with fail
      refine (known_any _ _).mono ?_
      rintro e w1 ⟨rfl, hw1⟩
      subst hw1
      go_wp2_with fail
      go_ret
      exact ⟨by rw [HV.out]; rfl, 0, rfl⟩
    · have HV : Hid (vP 3 s = knw (s == 4 || s == 5)) := by show vP 3 s = _; simp [vP, h3]
      clear h3
      by_cases h4 : s = 4
      · subst h4
        go_enter Tryz.func149, Tryz.ntmps149
        go_wp2_with fail
        refine (known_any _ _).mono ?_
        rintro e w1 ⟨rfl, hw1⟩
        subst hw1
        go_wp2_with fail
        go_ret
        exact ⟨by rw [HV.out]; rfl, 0, rfl⟩
      · have h4' := beqF h4
        rw [h4'] at HV
        go_enter Tryz.func149, Tryz.ntmps149
        go_wp2_with fail
        refine (known_any _ _).mono ?_
        rintro e w1 ⟨rfl, hw1⟩
        subst hw1
        go_wp2_with fail
        go_ret
        exact ⟨by rw [HV.out]; rfl, 0, rfl⟩
    · have HV : Hid (vP 4 s = 1) := by show vP 4 s = _; unfold vP; rw [if_neg h3]; rfl
      clear h3
      go_enter Tryz.func149, Tryz.ntmps149
      go_wp2_with fail
      go_ret
      exact ⟨by rw [HV.out]; rfl, 0, rfl⟩

end Go.Proofs.YtanknpmojblmcaaGreatDoor

/-
  The program's machine: lay, join, ask, plain.
-/
set_option linter.unusedSimpArgs false
set_option linter.unusedVariables false
namespace Go.Proofs.YtanknpmojblmcaaGreatDoor
open Go.RowKit

attribute [local go_sem ↓] Go.wp_at_zero Go.wp_at_succ

def vI (n : Nat) : Value := .int .i64 (n : Int)
/-- The machine's block. -/
def Mc (b : Nat) (v : Value) (a : Nat) (br : Bool) (w : World) : Prop := w.heap[b]? = some (.cells #[v, .int .i64 (a : Int), .bool br] 176 (0, 0))
theorem Mc.c0 {b : Nat} {v : Value} {a : Nat} {br : Bool} {w : World} (h : Mc b v a br w) : w.cell? ⟨b, 0, none⟩ = some v := by rw [whole_cell h]; rfl
theorem Mc.c1 {b : Nat} {v : Value} {a : Nat} {br : Bool} {w : World} (h : Mc b v a br w) : w.cell? ⟨b, 1, none⟩ = some (.int .i64 (a : Int)) := by rw [whole_cell h]; rfl
theorem Mc.c2 {b : Nat} {v : Value} {a : Nat} {br : Bool} {w : World} (h : Mc b v a br w) : w.cell? ⟨b, 2, none⟩ = some (.bool br) := by rw [whole_cell h]; rfl
theorem Mc.z {b : Nat} {v : Value} {a : Nat} {br : Bool} {w : World} (h : Mc b v a br w) (k : Nat) : w.frozen? ⟨b, k, none⟩ = false := whole_frozen h k
theorem Mc.lt {b : Nat} {v : Value} {a : Nat} {br : Bool} {w : World} (h : Mc b v a br w) : b < w.heap.size := whole_lt h
theorem Mc.alloc {b : Nat} {v : Value} {a : Nat} {br : Bool} {w : World} (h : Mc b v a br w) (o : Obj) : Mc b v a br (w.alloc o) := whole_alloc h o
theorem Mc.set0 {b : Nat} {v : Value} {a : Nat} {br : Bool} {w : World} (h : Mc b v a br w) (u : Value) : Mc b u a br (w.setCell ⟨b, 0, none⟩ u) := whole_set h 0 _
theorem Mc.set1 {b : Nat} {v : Value} {a : Nat} {br : Bool} {w : World} (h : Mc b v a br w) (k : Nat) {u : Value} (hu : u = .int .i64 (k : Int)) : Mc b v k br (w.setCell ⟨b, 1, none⟩ u) := by subst hu; exact whole_set h 1 _
theorem Mc.set2 {b : Nat} {v : Value} {a : Nat} {br : Bool} {w : World} (h : Mc b v a br w) (k : Bool) : Mc b v a k (w.setCell ⟨b, 2, none⟩ (.bool k)) := whole_set h 2 _

/-- The machine with its stack. -/
def stkV (S : List Nat) : List Value := S.reverse.map vI
def MS (b : Nat) (m : List Nat × Nat × Bool) (w : World) : Prop := ∃ pa pc, Mc b (.slice pa m.1.length pc) m.2.1 m.2.2 w ∧ w.ownsRow (b + 1) 3 1 (.slice pa m.1.length pc) m.1.length (stkV m.1) ∧ m.1.length ≤ 24 ∧ ∀ x ∈ m.1, x ≤ 2

theorem owns_set {w : World} {b : Nat} {e : TypeId} {size : Nat} {v : Value} {n : Nat} {xs : List Value} (h : w.ownsRow (b + 1) e size v n xs) (i : Nat) (u : Value) : (w.setCell ⟨b, i, none⟩ u).ownsRow (b + 1) e size v n xs :=
  ownsRow_setCell_below h (by show b < b + 1; omega) u
theorem MS.fail {b : Nat} {m : List Nat × Nat × Bool} {w : World} (h : MS b m w) : MS b (m.1, m.2.1, true) (w.setCell ⟨b, 2, none⟩ (.bool true)) := by
  obtain ⟨pa, pc, h1, h2, h3⟩ := h
  exact ⟨pa, pc, h1.set2 true, owns_set h2 _ _, h3⟩
theorem MS.asked {b : Nat} {S : List Nat} {a k : Nat} {br : Bool} {w : World} (h : MS b (S, a, br) w) {u : Value} (hu : u = .int .i64 (k : Int)) : MS b (S, k, br) (w.setCell ⟨b, 1, none⟩ u) := by
  obtain ⟨pa, pc, h1, h2, h3⟩ := h
  exact ⟨pa, pc, h1.set1 k hu, owns_set h2 _ _, h3⟩
theorem MS.drewN {b : Nat} {m : List Nat × Nat × Bool} {w : World} (h : MS b m w) (n : Nat) : MS b m (w.drewN n) := h
theorem MS.lt {b : Nat} {m : List Nat × Nat × Bool} {w : World} (h : MS b m w) : b < w.heap.size := by
  obtain ⟨pa, pc, h1, h2, h3⟩ := h; exact h1.lt
theorem MS.of {b : Nat} {m m' : List Nat × Nat × Bool} {w : World} (h : MS b m w) (e : m = m') : MS b m' w := e ▸ h

theorem infoInt : (Tryz.prog.info? 3).map (fun i => (i.zero, i.size, i.bytes)) = some (some (.int .i64 0), 1, 8) := by kernel_rfl

set_option maxRecDepth 100000 in
set_option maxHeartbeats 2000000 in
theorem lay_any (b x : Nat) (m : List Nat × Nat × Bool) (w : World) (h : MS b m w) (hx : x ≤ 2) :
    Calls Tryz.prog 147 #[.pointer (some ⟨b, 0, none⟩), .int .i64 (x : Int)] w fun e w' => e = .returned (.tuple #[]) ∧ MS b (layM x m) w' ∧ Below b w w' := by
  obtain ⟨i0, hi, hz0, hz1, hz2⟩ := info_parts infoInt
  obtain ⟨S, a, br⟩ := m
  have H0 : Hid (MS b (S, a, br) w) := h
  obtain ⟨pa, pc, h1, hown, hl, hv⟩ := h
  have hbl := h1.lt
  have q0 := h1.c0; have q2 := h1.c2; have z0 := h1.z 0; have z2 := h1.z 2
  dsimp only at q0 q2 hown hl hv
  by_cases hf : 24 ≤ S.length
  · have hf' : (24 : Int) ≤ (S.length : Int) := by omega
    go_enter Tryz.func147, Tryz.ntmps147
    go_wp2_with fail
    (try simp only [Exit.inBlock, Exit.then]); refine bodyPost_ret (results_none rfl _ _ _) rfl ?_
    refine ⟨rfl, ?_, (Below.refl b w).setCell (Nat.le_refl _) _⟩
    have : layM x (S, a, br) = (S, a, true) := by unfold layM; rw [if_pos hf]
    rw [this]
    exact H0.out.fail
  · have hf' : decide ((24 : Int) ≤ (S.length : Int)) = false := by simp; omega
    have HL : Hid (layM x (S, a, br) = (x :: S, a, br)) := by show layM x (S, a, br) = _; unfold layM; rw [if_neg hf]
    clear H0 hf
    go_enter Tryz.func147, Tryz.ntmps147
    go_wp2_with (at_builtin; refine wpList_append_lies _ rfl _ _ 36 rfl (b + 1) 3 i0 (.int .i64 0) 1 8 Tryz.underlying36 hi hz0 hz1 hz2 rfl (by decide) _ S.length (stkV S) rfl (hown.alloc _) ⟨w.heap.size, 0, none⟩ 1 1 [.int .i64 (x : Int)] rfl rfl (World.news_of_block (cs := #[.int .i64 (x : Int)]) (t := 3) (fr := (0, 0)) (heap_alloc_new w _)) ?c2 (by decide) ?c3 ?c4 ?c5 _ rfl ?_)
    case c2 => first | rfl | (intro u hu; simp at hu; subst hu; rfl)
    case c3 => unfold maxLen; omega
    case c4 => omega
    case c5 => first | omega | (simp; omega)
    intro g cap w1 hown1 hgrow hat hlt
    have hne : ∀ k, k ≤ b → some k ≠ (Value.slice pa S.length pc).ownBlock := by
      intro k hk e
      have := (hown.lt k e.symm).1; omega
    have m1 : Mc b _ a br w1 := (hgrow.block b (by simp; omega) (hne b (Nat.le_refl _))).trans (h1.alloc (.cells #[.int .i64 (x : Int)] 3))
    have hB : Below b w w1 := ((Below.refl b w).alloc (by omega) (.cells #[.int .i64 (x : Int)] 3)).trans ⟨hgrow.os, hgrow.tape, hgrow.output, hgrow.size, fun k hk => hgrow.block k (by simp; omega) (hne k (by omega))⟩
    have y0 := m1.c0; have yz := m1.z 0
    clear hgrow hat hlt q0 q2 z0 z2 hown h1 hne
    go_wp2_with fail
    go_end0
    refine ⟨rfl, ?_, hB.setCell (Nat.le_refl _) _⟩
    rw [HL.out]
    refine ⟨some ⟨g, 0, none⟩, cap, m1.set0 _, ?_, by simp; simp at hf'; omega, by
      intro u hu
      rcases List.mem_cons.1 hu with rfl | hu
      · exact hx
      · exact hv u hu⟩
    have := owns_set hown1 0 (.slice (some ⟨g, 0, none⟩) (S.length + 1) cap)
    simpa [stkV, vI] using this

theorem vAnd_le (a b : Nat) : vAnd a b ≤ 2 := by unfold vAnd; split <;> (try split) <;> omega
theorem vOr_le (a b : Nat) : vOr a b ≤ 2 := by unfold vOr; split <;> (try split) <;> omega
theorem knw_le (b : Bool) : knw b ≤ 2 := by cases b <;> decide
theorem vP_le (op : Nat) (s : Int) : vP op s ≤ 2 := by
  unfold vP
  repeat' split
  all_goals first | exact knw_le _ | omega

theorem owns_take2 {w : World} {base : Nat} {e : TypeId} {pa : Option Addr} {n cap : Nat} {xs ys : List Value} (hx : xs.length = n) (hy : ys.length = 2)
    (h : w.ownsRow base e 1 (.slice pa (n + 2) cap) (n + 2) (xs ++ ys)) : w.ownsRow base e 1 (.slice pa n cap) n xs := by
  obtain ⟨_, h2⟩ := h
  rcases h2 with ⟨h0, _⟩ | ⟨g', cap', cur, hv, hg, hh, hn, hcap, hsz, htake⟩
  · cases h0
  · cases hv
    refine ⟨by omega, .inr ⟨g', cap, cur, rfl, hg, hh, by omega, hcap, hsz, ?_⟩⟩
    have h3 : (cur.toList.take ((n + 2) * 1)).take (n * 1) = (xs ++ ys).take (n * 1) := by rw [htake]
    rw [List.take_take, Nat.min_eq_left (by omega)] at h3
    rw [h3]
    simp [hx]

theorem row_cellI {w : World} {base : Nat} {e : TypeId} {g n cap : Nat} {xs : List Value} (h : w.ownsRow base e 1 (.slice (some ⟨g, 0, none⟩) n cap) n xs) (j : Nat) (hj : j < n) : w.cell? ⟨g, j, none⟩ = xs[j]? := by
  rw [h.cellAt j (by omega)]

set_option maxRecDepth 100000 in
set_option maxHeartbeats 2000000 in
theorem join_any (b op : Nat) (m : List Nat × Nat × Bool) (w : World) (h : MS b m w) (hop : op = 5 ∨ op = 6) :
    Calls Tryz.prog 148 #[.pointer (some ⟨b, 0, none⟩), .int .i64 (op : Int)] w fun e w' => e = .returned (.tuple #[]) ∧ MS b (joinM op m) w' ∧ Below b w w' := by
  obtain ⟨S, a, br⟩ := m
  have H0 : Hid (MS b (S, a, br) w) := h
  obtain ⟨pa, pc, h1, hown, hl, hv⟩ := h
  have hbl := h1.lt
  have q0 := h1.c0; have q2 := h1.c2; have z0 := h1.z 0; have z2 := h1.z 2
  dsimp only at q0 q2 hown hl hv
  by_cases hf : S.length < 2
  · have hf' : ((S.length : Int) - 2) < 0 := by omega
    have HL : Hid (joinM op (S, a, br) = (S, a, true)) := by
      show joinM op (S, a, br) = _
      unfold joinM
      match S, hf with
      | [], _ => rfl
      | [x], _ => rfl
    clear hf hown
    go_enter Tryz.func148, Tryz.ntmps148
    go_wp2_with fail
    (try simp only [Exit.inBlock, Exit.then]); refine bodyPost_ret (results_none rfl _ _ _) rfl ?_
    refine ⟨rfl, ?_, (Below.refl b w).setCell (Nat.le_refl _) _⟩
    rw [HL.out]
    exact H0.out.fail
  · obtain ⟨y, x, S', rfl⟩ : ∃ y x S', S = y :: x :: S' := by
      match S, hf with
      | [], hf => exact absurd (by simp) hf
      | [x], hf => exact absurd (by simp) hf
      | y :: x :: S', _ => exact ⟨y, x, S', rfl⟩
    have hx := hv x (by simp)
    have hy := hv y (by simp)
    have HL : Hid (joinM op (y :: x :: S', a, br) = layM (joinV op x y) (S', a, br)) := rfl
    have e0 : stkV (y :: x :: S') = stkV S' ++ [vI x, vI y] := by simp [stkV]
    have hlenS : (stkV S').length = S'.length := by simp [stkV]
    have eN : (y :: x :: S').length = S'.length + 2 := rfl
    rw [e0, eN] at hown
    rw [eN] at q0 h1 hl
    obtain ⟨g, rfl⟩ : ∃ g, pa = some ⟨g, 0, none⟩ := by
      rcases hown.2 with ⟨hq, _⟩ | ⟨g, cap, cur, hq, _⟩
      · cases hq
      · cases hq; exact ⟨g, rfl⟩
    have hcap : S'.length + 2 ≤ pc := by
      rcases hown.2 with ⟨hq, _⟩ | ⟨g, cap, cur, hq, _, _, hh, _⟩
      · cases hq
      · cases hq; exact hh
    have cx := row_cellI hown S'.length (by omega)
    have cy := row_cellI hown (S'.length + 1) (by omega)
    rw [List.getElem?_append_right (by omega), hlenS] at cx cy
    simp [vI] at cx cy
    have hown' := owns_take2 (n := S'.length) hlenS rfl hown
    have hgb : g ≠ b := by
      intro e
      have := (hown.lt g rfl).1; omega
    have hv' : ∀ u ∈ S', u ≤ 2 := fun u hu => hv u (by simp [hu])
    have hV : Hid (∀ u ∈ S', u ≤ 2) := hv'
    clear hv hv' hf H0 e0 hown eN
    generalize hN : S'.length = N at *
    have eN1 : ((N + 2 : Nat) : Int) - 2 = (N : Int) := by omega
    have eN2 : ((N : Nat) : Int) + 2 - 2 = (N : Int) := by omega
    have M1 : Hid (MS b (S', a, br) (w.setCell ⟨b, 0, none⟩ (.slice (some ⟨g, 0, none⟩) N pc))) := by
      refine ⟨some ⟨g, 0, none⟩, pc, ?_, ?_, ?_, hV.out⟩
      · dsimp only; rw [hN]; exact h1.set0 _
      · dsimp only; rw [hN]; exact owns_set hown' _ _
      · dsimp only; omega
    have B1 : Below b w (w.setCell ⟨b, 0, none⟩ (.slice (some ⟨g, 0, none⟩) N pc)) := (Below.refl b w).setCell (Nat.le_refl _) _
    rcases hop with rfl | rfl
    · go_enter Tryz.func148, Tryz.ntmps148
      go_wp2_with fail
      refine (vand_any x y hx hy _).mono ?_
      rintro e w1 ⟨rfl, hw1⟩
      subst hw1
      go_wp2_with fail
      refine (lay_any b (vAnd x y) (S', a, br) _ M1.out (vAnd_le x y)).mono ?_
      rintro e w1 ⟨rfl, hm, hB⟩
      go_wp2_with fail
      go_end0
      exact ⟨rfl, hm, B1.trans hB⟩
    · go_enter Tryz.func148, Tryz.ntmps148
      go_wp2_with fail
      refine (vor_any x y hx hy _).mono ?_
      rintro e w1 ⟨rfl, hw1⟩
      subst hw1
      go_wp2_with fail
      refine (lay_any b (vOr x y) (S', a, br) _ M1.out (vOr_le x y)).mono ?_
      rintro e w1 ⟨rfl, hm, hB⟩
      go_wp2_with fail
      go_end0
      exact ⟨rfl, hm, B1.trans hB⟩

end Go.Proofs.YtanknpmojblmcaaGreatDoor
