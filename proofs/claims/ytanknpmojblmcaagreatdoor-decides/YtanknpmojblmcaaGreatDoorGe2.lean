/-
  BkF BkG, put together.
-/
import Derived.Test.YtanknpmojblmcaaGreatDoorGe1
import Derived.Test.YtanknpmojblmcaaGreatDoorGb2
import Derived.Test.YtanknpmojblmcaaGreatDoorGc1
/-
  The book's walk: a head.
-/
set_option linter.unusedSimpArgs false
set_option linter.unusedVariables false
namespace Go.Proofs.YtanknpmojblmcaaGreatDoor
open Go.RowKit

theorem hidF {p : Prop} (h : p) : Hid p := h
def sV (s : List UInt8) : Value := .string (bs s)
theorem Ow.of {w : World} {base : Nat} {v : Value} {on : List (List UInt8)} (h : w.ownsRow base 9 1 v on.length (on.map sV)) : Ow v on w := by
  rcases h.2 with ⟨hv, hn⟩ | ⟨g, cap, cur, hv, h1, h2, h3, h4, h5, h6⟩
  · exact Or.inl ⟨hv, List.eq_nil_of_length_eq_zero hn⟩
  · right
    subst hv
    refine ⟨g, cap, rfl, h3, whole_lt h2, ?_⟩
    intro k hk
    rw [h.cellAt k (by omega)]
    simp [sV, List.getElem?_eq_getElem hk]
theorem Md.set {h : Nat} {m m' : MV} {w : World} (x : Md h m w) (k : Nat) (u : Value) (e : (mvC m).setIfInBounds k u = mvC m') : Md h m' (w.setCell ⟨h, k, none⟩ u) := by
  unfold Md; rw [← e]; exact whole_set x k u
theorem Env.put {b f h : Nat} {v : Value} {bn bj : Nat} {ms : List MB} {sl : Nat → Sl} {ov : Value} {on : List (List UInt8)} {m m' : MV} {ps : List (Nat × Nat × Nat)} {T : ByteArray} {i : Nat} {w : World} (E : Env b f h v bn bj ms sl ov on m ps T i w) (k : Nat) (u : Value) (e : (mvC m).setIfInBounds k u = mvC m') (ep : Value.slice m'.pa m'.pn m'.pc = Value.slice m.pa m.pn m.pc) :
    Env b f h v bn bj ms sl ov on m' ps T i (w.setCell ⟨h, k, none⟩ u) := by
  have hown := E.pt
  refine E.next ((Below.refl h w).setCell (Nat.le_refl _) u) (E.md.set k u e) ?_
  unfold PtsB
  rw [ep]
  exact ownsRow_setCell_below hown (by show h < h + 1; omega) u
/-- All blocks but the book, the feed and the row of heads are as they were. -/
structure HUp (b f : Nat) (v : Value) (w w' : World) : Prop where
  os : w'.os = w.os
  tape : w'.tape = w.tape
  output : w'.output = w.output
  size : w.heap.size ≤ w'.heap.size
  block : ∀ k, k < w.heap.size → k ≠ b → k ≠ f → v.ownBlock ≠ some k → w'.heap[k]? = w.heap[k]?

theorem owns_upon {w w' : World} {f h base : Nat} {e : TypeId} {size : Nat} {v : Value} {n : Nat} {xs : List Value} (hr : w.ownsRow base e size v n xs) (U : Upon f h w w') (hh : h = w.heap.size) (hv : v.ownBlock ≠ some f) : w'.ownsRow base e size v n xs :=
  hr.kept (row := some f) ⟨U.os, U.tape, U.output, U.size, fun k hk hb => U.block k (by omega) (fun e => hb (by rw [e]))⟩ (Or.inr hv)
theorem Bk.jobs {b : Nat} {v : Value} {n j : Nat} {w : World} (h : Bk b v n j w) (k : Nat) {u : Value} (hu : u = .int .i64 ((j + k : Nat) : Int)) : Bk b v n (j + k) (w.setCell ⟨b, 2, none⟩ u) := by
  subst hu; exact whole_set h 2 _
theorem HUp.jobs {b f : Nat} {v : Value} {w w' : World} (h : HUp b f v w w') (u : Value) {k : Nat} : HUp b f v w (w'.setCell ⟨b, k, none⟩ u) :=
  ⟨h.os, h.tape, h.output, by simpa [World.setCell] using h.size, fun i hi hb hf hv => by rw [Below.heap_setCell _ _ _ _ (by show i ≠ b; omega)]; exact h.block i hi hb hf hv⟩
theorem HUp.drew {b f : Nat} {v : Value} {w w' : World} (h : HUp b f v w w') : HUp b f v w w'.drew := ⟨h.os, h.tape, h.output, h.size, h.block⟩

/-- The slices of one head more. -/
def slS (n : Nat) (s : Sl) (sl : Nat → Sl) : Nat → Sl := fun k => if k = n then s else sl k
theorem vsB_snoc (ms : List MB) (sl : Nat → Sl) (m : MB) (s : Sl) : vsB (ms ++ [m]) (slS ms.length s sl) = vsB ms sl ++ [toMV m s] := by
  unfold vsB
  rw [List.length_append, List.length_singleton, List.range_succ, List.map_append, List.map_singleton]
  congr 1
  · refine List.map_congr_left ?_
    intro k hk
    have hk : k < ms.length := by simpa using hk
    unfold slS
    rw [if_neg (by omega)]
    congr 1
    simp [List.getElem?_append, hk]
  · unfold slS
    rw [if_pos rfl]
    congr 2
    simp
/-- What making a head leaves. -/
def HdB (b f ob : Nat) (v : Value) (bn bj : Nat) (ms : List MB) (sl : Nat → Sl) (ov : Value) (on : List (List UInt8)) (T : ByteArray) (w : World) (R : MB × Nat) (e : Ending) (w' : World) : Prop :=
  ∃ v' s, e = .returned (.string (bs (wrL R.1.job (wtM R.1)))) ∧ Bk b v' bn (bj + R.1.count) w' ∧ w'.ownsRow (b + 1) 87 12 v' (ms.length + 1) (flatM (vsB (ms ++ [R.1]) (slS ms.length s sl))) ∧ w'.ownsRow (w.heap.size + 1) 140 3 (.slice s.1 s.2.1 s.2.2) R.1.parts.length (flatPt R.1.parts) ∧ Fe f T R.2 w' ∧ w'.ownsRow ob 9 1 ov on.length (on.map sV) ∧ HUp b f v w w'

attribute [local go_sem ↓] Go.wp_at_zero Go.wp_at_succ
set_option maxRecDepth 100000 in
set_option maxHeartbeats 8000000 in
theorem headE (b f ob : Nat) (v : Value) (bn bj : Nat) (ms : List MB) (sl : Nat → Sl) (ov : Value) (on : List (List UInt8)) (nodes k : Nat) (T : ByteArray) (i : Nat) (w : World) (hB : Bk b v bn bj w) (hM : w.ownsRow (b + 1) 87 12 v ms.length (flatM (vsB ms sl))) (hO : w.ownsRow ob 9 1 ov on.length (on.map sV)) (hF : Fe f T i w)
    (hk : k < on.length) (hol : on.length ≤ 3) (hl : ms.length ≤ 39) (hg : ∀ x ∈ ms, SmlB x) (hbn : bn ≤ 100) (hbj : bj ≤ 900) (hn1 : 1 ≤ nodes) (hn8 : nodes ≤ 8) (hnm : (∀ c ∈ on[k], letB c.toNat = true) ∧ 1 ≤ on[k].length ∧ on[k].length ≤ 6) :
    Calls Tryz.prog 15 #[.pointer (some ⟨b, 0, none⟩), .pointer (some ⟨f, 0, none⟩), .int .i64 (nodes : Int), .int .i64 (k : Int), ov] w (HdB b f ob v bn bj ms sl ov on T w (headB ms on bn bj nodes k T.data.toList i)) := by
  obtain ⟨R, hR⟩ : ∃ R, R = headB ms on bn bj nodes k T.data.toList i := ⟨_, rfl⟩
  rw [← hR]
  unfold headB at hR
  rw [show on.getD k [] = on[k] from by simp [hk]] at hR
  unfold HdB
  obtain ⟨i0, hI0, hz0, hz1, hz2⟩ := info_parts infoMade
  have b1 := hB.c 1; have b2 := hB.c 2
  simp at b1 b2
  have hbl := hB.lt
  have hfl := hF.lt
  have hbf : b ≠ f := by
    intro q; subst q
    have := hB.symm.trans hF.1
    injection this with this
    injection this with _ h2 _
    exact absurd h2 (by decide)
  have hvf : v.ownBlock ≠ some f := row_ne hM hF.1 (by decide)
  have hof : ov.ownBlock ≠ some f := row_ne hO hF.1 (by decide)
  have hob : ov.ownBlock ≠ some b := row_ne hO hB (by decide)
  have hnn := hnm
  obtain ⟨nm, hnme⟩ : ∃ nm, nm = on[k] := ⟨_, rfl⟩
  rw [← hnme] at hnn hR
  have HNM : Hid (on[k] = nm) := hnme.symm
  have HR : Hid (R = _) := hR
  obtain ⟨fo1, fo2, fo3, fo4, fo5, fo6, fo7⟩ := faceB_ok (T := T.data.toList) (i := i) hn1 hn8 hnn
  obtain ⟨FC, hFC⟩ : ∃ FC, FC = faceB nodes nm T.data.toList i := ⟨_, rfl⟩
  rw [← hFC] at HR fo1 fo2 fo3 fo4 fo5 fo6 fo7
  unfold faceB at hFC
  have HFC : Hid (FC = _) := hFC
  have HFO : Hid (JobOK FC.1 ∧ FC.1.name = nm) := ⟨fo1, fo2⟩
  clear hR hnm hnme hFC fo1 fo2 fo3 fo6 fo7
  have hmsl : ms.length = (vsB ms sl).length := (vsB_len ms sl).symm
  have hMs : Ms v (vsB ms sl) w := by rw [hmsl] at hM; exact Ms.of hM
  clear hmsl
  go_enter Tryz.func15, Tryz.ntmps15
  go_upto_region 1 with fail
  go_cut [11] (fun s11 wx => s11 = .pointer (some ⟨w.heap.size, 0, none⟩) ∧ wx = (w.alloc (.cells #[.int .i64 (bn : Int), .string ⟨#[]⟩, .int .i64 0, .int .i64 0, .bool false, .int .i64 0, .int .i64 0, .string ⟨#[]⟩, .int .i64 (bj : Int), .int .i64 1, .string ⟨#[]⟩, .slice none 0 0] 87)).drew)
  case first =>
    go_region
    all_goals
      go_wp2_with fail
      go_meet
      case rel => exact ⟨rfl, rfl⟩
  case rest =>
  obtain ⟨rfl, rfl⟩ := hcut
  obtain ⟨va, vc, rfl⟩ : ∃ va vc, v = .slice va ms.length vc := by
    rcases hM.2 with ⟨rfl, hn0⟩ | ⟨g, cap, cur, rfl, _⟩
    · rw [hn0]; exact ⟨_, _, rfl⟩
    · exact ⟨_, _, rfl⟩
  have E : Env b f w.heap.size _ bn bj ms sl ov on ⟨bn, jv0, bj, 1, [], none, 0, 0⟩ [] T i (w.alloc (.cells #[.int .i64 (bn : Int), .string ⟨#[]⟩, .int .i64 0, .int .i64 0, .bool false, .int .i64 0, .int .i64 0, .string ⟨#[]⟩, .int .i64 (bj : Int), .int .i64 1, .string ⟨#[]⟩, .slice none 0 0] 87)).drew :=
    ⟨whole_alloc hB _, hMs.blk (by simp) (fun g hg => Below.heap_alloc _ _ _ (hM.lt g hg).2), Ow.of (hO.alloc _), hF.block (Below.heap_alloc _ _ _ hfl), whole_new w _, World.ownsRow_nil _ _ _ _, hbl, hfl, fun g hg => (hM.lt g hg).2, fun g hg => (hO.lt g hg).2, hbf, hvf, hof⟩
  have U : Upon f w.heap.size w (w.alloc (.cells #[.int .i64 (bn : Int), .string ⟨#[]⟩, .int .i64 0, .int .i64 0, .bool false, .int .i64 0, .int .i64 0, .string ⟨#[]⟩, .int .i64 (bj : Int), .int .i64 1, .string ⟨#[]⟩, .slice none 0 0] 87)).drew := Upon.below ((Below.refl _ w).alloc (Nat.le_refl _) _).drew
  generalize (w.alloc (.cells #[.int .i64 (bn : Int), .string ⟨#[]⟩, .int .i64 0, .int .i64 0, .bool false, .int .i64 0, .int .i64 0, .string ⟨#[]⟩, .int .i64 (bj : Int), .int .i64 1, .string ⟨#[]⟩, .slice none 0 0] 87)).drew = x0 at *
  obtain ⟨h, hh⟩ : ∃ h, h = w.heap.size := ⟨_, rfl⟩
  rw [← hh] at E U ⊢
  have HH : Hid (h = w.heap.size) := hh
  clear hh hMs
  -- the name
  obtain ⟨oa, oc, rfl⟩ := E.ow.form
  have oi : x0.cell? ⟨0, 0, none⟩ = x0.cell? ⟨0, 0, none⟩ := rfl
  rcases E.ow with ⟨_, hon⟩ | ⟨og, ocap, hq, hoc, hog, hocell⟩
  · rw [hon] at hk; simp at hk
  cases hq
  replace oi := hocell k hk
  rw [HNM.out] at oi
  have hkl : (k : Int) < (on.length : Int) := by omega
  have c1 := E.md.c 1; have z1 := E.md.z 1
  simp [mvC] at c1
  clear hocell
  go_wp2_with fail
  replace E := E.put (m' := ⟨bn, ⟨nm, 0, 0, false, 0, 0, []⟩, bj, 1, [], none, 0, 0⟩) 1 (.string (bs nm)) rfl rfl
  replace U := U.trans (Upon.below ((Below.refl h x0).setCell (p := ⟨h, 1, none⟩) (Nat.le_refl _) (.string (bs nm))))
  clear c1 z1 oi
  generalize x0.setCell ⟨h, 1, none⟩ (.string (bs nm)) = x1 at *
  -- the nodes
  refine (nextB f nodes T i _ E.fd (by omega) (by omega)).mono ?_
  rintro e x2 ⟨he, hf1, ha1⟩
  replace U := U.trans (Upon.aside ha1 (Nat.le_of_lt E.hlt))
  replace E := E.feed ha1 hf1
  clear ha1 hf1
  obtain ⟨k1, hk1⟩ : ∃ k1, k1 = nxV T.data.toList i nodes := ⟨_, rfl⟩
  have hk1l : k1 < nodes := by rw [hk1]; exact nxV_lt _ _ (by omega)
  obtain ⟨i1, hi1⟩ : ∃ i1, i1 = nxI T.data.toList i := ⟨_, rfl⟩
  rw [← hk1] at he HFC
  rw [← hi1] at E HFC
  subst he
  obtain ⟨nd, hnd⟩ : ∃ nd : Nat, nd = 1 + k1 := ⟨_, rfl⟩
  rw [← hnd] at HFC
  have en : (1 : Int) + (k1 : Int) = (nd : Int) := by omega
  have hnd1 : 1 ≤ nd ∧ nd ≤ 8 := by omega
  clear hnd hk1 hi1 hk1l
  have c2 := E.md.c 2; have z2 := E.md.z 2
  simp [mvC] at c2
  go_wp2_with fail
  replace E := E.put (m' := ⟨bn, ⟨nm, nd, 0, false, 0, 0, []⟩, bj, 1, [], none, 0, 0⟩) 2 (.int .i64 (nd : Int)) rfl rfl
  replace U := U.trans (Upon.below ((Below.refl h x2).setCell (p := ⟨h, 2, none⟩) (Nat.le_refl _) (.int .i64 (nd : Int))))
  clear c2 z2 en
  generalize x2.setCell ⟨h, 2, none⟩ (.int .i64 (nd : Int)) = x3 at *
  -- the time
  refine (nextB f 12 T i1 _ E.fd (by omega) (by omega)).mono ?_
  rintro e x4 ⟨he, hf1, ha1⟩
  replace U := U.trans (Upon.aside ha1 (Nat.le_of_lt E.hlt))
  replace E := E.feed ha1 hf1
  clear ha1 hf1
  obtain ⟨k2, hk2⟩ : ∃ k2, k2 = nxV T.data.toList i1 12 := ⟨_, rfl⟩
  have hk2l : k2 < 12 := by rw [hk2]; exact nxV_lt _ _ (by omega)
  obtain ⟨i2, hi2⟩ : ∃ i2, i2 = nxI T.data.toList i1 := ⟨_, rfl⟩
  rw [← hk2] at he HFC
  rw [← hi2] at E HFC
  subst he
  obtain ⟨tm, htm⟩ : ∃ tm : Nat, tm = 1 + k2 := ⟨_, rfl⟩
  rw [← htm] at HFC
  have en : (1 : Int) + (k2 : Int) = (tm : Int) := by omega
  have htm1 : 1 ≤ tm ∧ tm ≤ 12 := by omega
  clear htm hk2 hi2 hk2l
  have c2 := E.md.c 3; have z2 := E.md.z 3
  simp [mvC] at c2
  go_wp2_with fail
  replace E := E.put (m' := ⟨bn, ⟨nm, nd, tm, false, 0, 0, []⟩, bj, 1, [], none, 0, 0⟩) 3 (.int .i64 (tm : Int)) rfl rfl
  replace U := U.trans (Upon.below ((Below.refl h x4).setCell (p := ⟨h, 3, none⟩) (Nat.le_refl _) (.int .i64 (tm : Int))))
  clear c2 z2 en
  generalize x4.setCell ⟨h, 3, none⟩ (.int .i64 (tm : Int)) = x5 at *
  -- the line's beginning
  have s1 := bs_size nm
  have s2 := bs_size (dig2 nd)
  have s3 := bs_size (dig2 tm)
  have l2 := dig2_len nd
  have l3 := dig2_len tm
  have hn6 := hnn.2.2
  have e1 : ¬ 9223372036854775807 < 3 + nm.length := by omega
  have e2 : ¬ 9223372036854775807 < 3 + nm.length + 7 := by omega
  have e3 : ¬ 9223372036854775807 < 3 + nm.length + 7 + (dig2 nd).length := by omega
  have e4 : ¬ 9223372036854775807 < 3 + nm.length + 7 + (dig2 nd).length + 6 := by omega
  have e5 : ¬ 9223372036854775807 < 3 + nm.length + 7 + (dig2 nd).length + 6 + (dig2 tm).length := by omega
  have hnd12 : nd ≤ 12 := by omega
  have htm12 : tm ≤ 12 := by omega
  have c1 := E.md.c 1; have c2 := E.md.c 2; have c3 := E.md.c 3
  simp [mvC] at c1 c2 c3
  go_region_held3 (fun w' => w'.cell? ⟨h, 1, none⟩ = some (.string (bs nm)) ∧ w'.cell? ⟨h, 2, none⟩ = some (.int .i64 (nd : Int)) ∧ w'.cell? ⟨h, 3, none⟩ = some (.int .i64 (tm : Int)))
    (go_keep)
    (first
      | (go_at_call 38; refine (itoa_any nd hnd12 _).mono ?_; rintro e w' ⟨rfl, rfl⟩)
      | (go_at_call 38; refine (itoa_any tm htm12 _).mono ?_; rintro e w' ⟨rfl, rfl⟩))
  have E0s := wr0_bs ⟨nm, nd, tm, false, 0, 0, []⟩
  simp only at E0s
  rw [E0s]
  clear e1 e2 e3 e4 e5 E0s c1 c2 c3
  replace E := E.drewN 1
  replace U := U.trans (Upon.below (below_drewN (Below.refl h x5) 1))
  replace E : Env b f h _ bn bj ms sl _ on ⟨bn, ⟨nm, nd, tm, false, 0, 0, []⟩, bj, 1, [], none, 0, 0⟩ [] T i2 x5.drew := E
  replace U : Upon f h w x5.drew := U
  generalize x5.drew = x6 at *
  have s7 := bs_size (wr0 ⟨nm, nd, tm, false, 0, 0, []⟩)
  have l7 : (wr0 ⟨nm, nd, tm, false, 0, 0, []⟩).length ≤ 40 := by unfold wr0; simp; omega
  go_wp2_with fail
  refine (nextB f 4 T i2 _ E.fd (by omega) (by omega)).mono ?_
  rintro e x7 ⟨he, hf1, ha1⟩
  replace U := U.trans (Upon.aside ha1 (Nat.le_of_lt E.hlt))
  replace E := E.feed ha1 hf1
  clear ha1 hf1
  obtain ⟨k4, hk4⟩ : ∃ k4, k4 = nxV T.data.toList i2 4 := ⟨_, rfl⟩
  have hk4l : k4 < 4 := by rw [hk4]; exact nxV_lt _ _ (by omega)
  obtain ⟨i3, hi3⟩ : ∃ i3, i3 = nxI T.data.toList i2 := ⟨_, rfl⟩
  rw [← hk4] at he HFC
  rw [← hi3] at E HFC
  subst he
  clear hk4 hi3
  obtain ⟨W0, hW0⟩ : ∃ W0, W0 = wr0 ⟨nm, nd, tm, false, 0, 0, []⟩ := ⟨_, rfl⟩
  rw [← hW0] at s7 l7 ⊢
  have HW0 : Hid (W0 = wr0 ⟨nm, nd, tm, false, 0, 0, []⟩) := hW0
  clear hW0
  go_upto_if 59 with fail
  go_cut [12] (fun s12 wx => s12 = .string (bs (wrA FC.1)) ∧ Env b f h (.slice va ms.length vc) bn bj ms sl (.slice (some ⟨og, 0, none⟩) on.length oc) on ⟨bn, FC.1, bj, FC.2.1, [], none, 0, 0⟩ [] T FC.2.2 wx ∧ Upon f h w wx)
  case first =>
    by_cases hk41 : k4 = 1
    · have HF2 : Hid (FC = _) := HFC.out.trans (if_pos hk41)
      clear HFC hk4l
      subst hk41
      go_wp2_with fail
      refine (nextB f 6 T i3 _ E.fd (by omega) (by omega)).mono ?_
      rintro e x8 ⟨he, hf1, ha1⟩
      replace U := U.trans (Upon.aside ha1 (Nat.le_of_lt E.hlt))
      replace E := E.feed ha1 hf1
      clear ha1 hf1
      obtain ⟨k6, hk6⟩ : ∃ k6, k6 = nxV T.data.toList i3 6 := ⟨_, rfl⟩
      have hk6l : k6 < 6 := by rw [hk6]; exact nxV_lt _ _ (by omega)
      obtain ⟨i4, hi4⟩ : ∃ i4, i4 = nxI T.data.toList i3 := ⟨_, rfl⟩
      rw [← hk6] at he HF2
      rw [← hi4] at E HF2
      subst he
      obtain ⟨cn, hcn⟩ : ∃ cn : Nat, cn = 1 + k6 := ⟨_, rfl⟩
      rw [← hcn] at HF2
      have en : (1 : Int) + (k6 : Int) = (cn : Int) := by omega
      have hcn1 : 1 ≤ cn ∧ cn ≤ 6 := by omega
      clear hcn hk6 hi4 hk6l
      have c9 := E.md.c 9; have z9 := E.md.z 9; have c4 := E.md.c 4; have z4 := E.md.z 4
      simp [mvC] at c9 c4
      go_wp2_with fail
      replace E := E.put (m' := ⟨bn, ⟨nm, nd, tm, false, 0, 0, []⟩, bj, cn, [], none, 0, 0⟩) 9 (.int .i64 (cn : Int)) rfl rfl
      replace E := E.put (m' := ⟨bn, ⟨nm, nd, tm, true, 0, 0, []⟩, bj, cn, [], none, 0, 0⟩) 4 (.bool true) rfl rfl
      replace U := U.trans (Upon.below (((Below.refl h x8).setCell (p := ⟨h, 9, none⟩) (Nat.le_refl _) (.int .i64 (cn : Int))).setCell (p := ⟨h, 4, none⟩) (Nat.le_refl _) (.bool true)))
      clear c9 z9 c4 z4 en
      generalize (x8.setCell ⟨h, 9, none⟩ (.int .i64 (cn : Int))).setCell ⟨h, 4, none⟩ (.bool true) = x9 at *
      refine (nextB f 3 T i4 _ E.fd (by omega) (by omega)).mono ?_
      rintro e x10 ⟨he, hf1, ha1⟩
      replace U := U.trans (Upon.aside ha1 (Nat.le_of_lt E.hlt))
      replace E := E.feed ha1 hf1
      clear ha1 hf1
      obtain ⟨lo, hlo⟩ : ∃ lo, lo = nxV T.data.toList i4 3 := ⟨_, rfl⟩
      have hlol : lo < 3 := by rw [hlo]; exact nxV_lt _ _ (by omega)
      obtain ⟨i5, hi5⟩ : ∃ i5, i5 = nxI T.data.toList i4 := ⟨_, rfl⟩
      rw [← hlo] at he HF2
      rw [← hi5] at E HF2
      subst he
      obtain ⟨hi, hhi⟩ : ∃ hi : Nat, hi = lo + cn - 1 := ⟨_, rfl⟩
      rw [← hhi] at HF2
      have en : (lo : Int) + (cn : Int) - 1 = (hi : Int) := by omega
      have hhi1 : lo + cn = hi + 1 ∧ hi ≤ 12 ∧ lo ≤ 2 := by omega
      clear hhi hlo hi5 hlol
      have hloI : (lo : Int) ≤ 2 := by omega
      have hcnI : (cn : Int) ≤ 6 := by omega
      have c5 := E.md.c 5; have z5 := E.md.z 5; have c6 := E.md.c 6; have z6 := E.md.z 6; have c9 := E.md.c 9
      simp [mvC] at c5 c6 c9
      go_wp2_with fail
      replace E := E.put (m' := ⟨bn, ⟨nm, nd, tm, true, lo, 0, []⟩, bj, cn, [], none, 0, 0⟩) 5 (.int .i64 (lo : Int)) rfl rfl
      replace E := E.put (m' := ⟨bn, ⟨nm, nd, tm, true, lo, hi, []⟩, bj, cn, [], none, 0, 0⟩) 6 (.int .i64 (hi : Int)) rfl rfl
      replace U := U.trans (Upon.below (((Below.refl h x10).setCell (p := ⟨h, 5, none⟩) (Nat.le_refl _) (.int .i64 (lo : Int))).setCell (p := ⟨h, 6, none⟩) (Nat.le_refl _) (.int .i64 (hi : Int))))
      clear c5 z5 c6 z6 c9 en
      generalize (x10.setCell ⟨h, 5, none⟩ (.int .i64 (lo : Int))).setCell ⟨h, 6, none⟩ (.int .i64 (hi : Int)) = x11 at *
      have c5 := E.md.c 5; have c6 := E.md.c 6
      simp [mvC] at c5 c6
      have s4 := bs_size (dig2 lo)
      have s5 := bs_size (dig2 hi)
      have l4 := dig2_len lo
      have l5 := dig2_len hi
      have hlo12 : lo ≤ 12 := by omega
      have hhi12 : hi ≤ 12 := by omega
      have e1 : ¬ 9223372036854775807 < W0.length + 7 := by omega
      have e2 : ¬ 9223372036854775807 < W0.length + 7 + (dig2 lo).length := by omega
      have e3 : ¬ 9223372036854775807 < W0.length + 7 + (dig2 lo).length + 1 := by omega
      have e4 : ¬ 9223372036854775807 < W0.length + 7 + (dig2 lo).length + 1 + (dig2 hi).length := by omega
      go_region_held3 (fun w' => w'.cell? ⟨h, 5, none⟩ = some (.int .i64 (lo : Int)) ∧ w'.cell? ⟨h, 6, none⟩ = some (.int .i64 (hi : Int)))
        (go_keep)
        (first
          | (go_at_call 38; refine (itoa_any lo hlo12 _).mono ?_; rintro e w' ⟨rfl, rfl⟩)
          | (go_at_call 38; refine (itoa_any hi hhi12 _).mono ?_; rintro e w' ⟨rfl, rfl⟩))
      have EAs := wrA_bs ⟨nm, nd, tm, true, lo, hi, []⟩ rfl
      simp only at EAs
      have HW1 : Hid (W0 = wr0 ⟨nm, nd, tm, true, lo, hi, []⟩) := HW0
      rw [← HW1.out] at EAs
      rw [EAs]
      clear e1 e2 e3 e4 EAs c5 c6
      replace E := E.drewN 1
      replace U := U.trans (Upon.below (below_drewN (Below.refl h x11) 1))
      go_wp2_with fail
      go_meet
      case rel =>
        rw [HF2.out]
        exact ⟨rfl, E, U⟩
    · have hk4' : ((k4 : Int) == 1) = false := by rw [beq_eq_false_iff_ne]; omega
      have HF2 : Hid (FC = _) := HFC.out.trans (if_neg hk41)
      clear HFC
      go_wp2_with fail
      go_meet
      case rel =>
        rw [HF2.out]
        exact ⟨by rw [HW0.out]; rfl, E, U⟩
  case rest =>
  obtain ⟨rfl, E6, U6⟩ := hcut
  rename World => x12
  clear E U HFC HW0 s7 l7 hk4l
  have hjo := HFO.out
  have l9 : (wrA FC.1).length ≤ 60 := by
    have a1 := hjo.1.nm6
    have a2 := dig2_len FC.1.nodes; have a3 := dig2_len FC.1.time; have a4 := dig2_len FC.1.lo; have a5 := dig2_len FC.1.hi
    unfold wrA wr0
    split <;> simp <;> omega
  have s9 := bs_size (wrA FC.1)
  obtain ⟨J, cn, i5⟩ := FC
  dsimp only at *
  have HJN : Hid (J.name = nm) := hjo.2
  clear hjo
  go_wp2_with fail
  refine (nextB f 3 T i5 _ E6.fd (by omega) (by omega)).mono ?_
  rintro e y1 ⟨he, hf1, ha1⟩
  replace U6 := U6.trans (Upon.aside ha1 (Nat.le_of_lt E6.hlt))
  replace E6 := E6.feed ha1 hf1
  clear ha1 hf1
  obtain ⟨k7, hk7⟩ : ∃ k7, k7 = nxV T.data.toList i5 3 := ⟨_, rfl⟩
  have hk7l : k7 < 3 := by rw [hk7]; exact nxV_lt _ _ (by omega)
  obtain ⟨i6, hi6⟩ : ∃ i6, i6 = nxI T.data.toList i5 := ⟨_, rfl⟩
  rw [← hk7] at he HR
  rw [← hi6] at E6 HR
  subst he
  clear hk7 hi6
  have bk0 := E6.bk.c 0
  simp at bk0
  have hg2 : ∀ x ∈ ms, GoodB x := fun x hx => (hg x hx).1
  go_upto_if 94 with fail
  go_cut [12] (fun s12 wx => ∃ pa pn pc, s12 = .string (bs (wrL R.1.job (wtM R.1))) ∧ Env b f h (.slice va ms.length vc) bn bj ms sl (.slice (some ⟨og, 0, none⟩) on.length oc) on (toMV R.1 (pa, pn, pc)) R.1.parts T R.2 wx ∧ Upon f h w wx ∧ R.1.count = cn)
  case first =>
    by_cases hk70 : k7 = 0
    · have HR2 : Hid (R = (⟨bn, J, bj, cn, none, []⟩, i6)) := HR.out.trans (if_pos hk70)
      clear HR hk7l bk0
      subst hk70
      go_wp2_with fail
      go_meet
      case rel =>
        rw [HR2.out]
        exact ⟨none, 0, 0, rfl, E6, U6, rfl⟩
    · have hk7' : (0 : Int) < (k7 : Int) := by omega
      have HR2 : Hid (R = _) := HR.out.trans (if_neg hk70)
      clear HR hk70
      go_wp2_with fail
      refine (wantE2 b f h _ bn bj ms sl _ on ⟨bn, J, bj, cn, [], none, 0, 0⟩ [] T i6 _ E6 (by decide) (by omega) hol hg hbn).mono ?_
      rintro e y2 ⟨pa, pn, pc, he, E7, U7⟩
      replace U7 := U6.trans U7
      obtain ⟨X, hX⟩ : ∃ X, X = wantB ms on bn J.name T.data.toList 2 i6 := ⟨_, rfl⟩
      have htx := wantB_tx hg2 on bn J.name T.data.toList 2 i6
      have hkx : kX 2 = 65 := rfl
      change e = .returned (.string (bs (txW (wantB ms on bn J.name T.data.toList 2 i6).1))) at he
      replace E7 : Env b f h (.slice va ms.length vc) bn bj ms sl (.slice (some ⟨og, 0, none⟩) on.length oc) on ⟨bn, J, bj, cn, [], pa, pn, pc⟩ ([] ++ (wantB ms on bn J.name T.data.toList 2 i6).2.1) T (wantB ms on bn J.name T.data.toList 2 i6).2.2 y2 := E7
      rw [← hX] at he E7 htx
      rw [List.nil_append] at E7
      have HR3 : Hid (R = (⟨bn, J, bj, cn, some X.1, X.2.1⟩, X.2.2)) := by
        show _ = _
        rw [HR2.out, hX, HJN.out]
      have hok := (tree_want X.1 (by rw [hX]; exact (wantB_ok hg2 2 i6).1) (by rw [hX]; exact (wantB_ok hg2 2 i6).2.1))
      have HNE : Hid (txW X.1 ≠ []) := hok.choose_spec.2.2.2
      clear hX hok HR2 E6 U6
      subst he
      obtain ⟨t, ht⟩ : ∃ t, t = txW X.1 := ⟨_, rfl⟩
      rw [← ht] at htx HNE ⊢
      have HT : Hid (t = txW X.1) := ht
      clear ht
      have s8 := bs_size t
      have c10 := E7.md.c 10; have z10 := E7.md.z 10
      simp [mvC] at c10
      go_wp2_with fail
      have E8 := E7.put (m' := ⟨bn, J, bj, cn, t, pa, pn, pc⟩) 10 (.string (bs t)) rfl rfl
      have U8 := U7.trans (Upon.below ((Below.refl h y2).setCell (p := ⟨h, 10, none⟩) (Nat.le_refl _) (.string (bs t))))
      go_meet
      case rel =>
        rw [HR3.out]
        refine ⟨pa, pn, pc, ?_, ?_, U8, rfl⟩
        · have := wrL_bs J (a := t) HNE.out
          show _ = Value.string (bs (wrL J (txW X.1)))
          rw [← HT.out, ← this]
        · show Env b f h _ bn bj ms sl _ on ⟨bn, J, bj, cn, txW X.1, pa, pn, pc⟩ X.2.1 T X.2.2 _
          rw [← HT.out]
          exact E8
  case rest =>
  obtain ⟨pa, pn, pc, rfl, E7, U7, hcnt⟩ := hcut
  rename World => y3
  clear E6 U6 HR bk0
  obtain ⟨m, i7⟩ := R
  dsimp only at *
  have HCN : Hid (m.count = cn) := hcnt
  obtain ⟨y, hy⟩ : ∃ y, y = toMV m (pa, pn, pc) := ⟨_, rfl⟩
  have HYC : Hid (y.count = cn) := by show _ = _; rw [hy, ← hcnt]; rfl
  have HY : Hid (y = toMV m (pa, pn, pc)) := hy
  rw [← hy] at E7
  have hPr : y3.ownsRow (h + 1) 140 3 (.slice pa pn pc) m.parts.length (flatPt m.parts) := by
    have := E7.pt
    unfold PtsB at this
    rw [hy] at this
    exact this
  clear hy hcnt
  obtain ⟨LN, hLN⟩ : ∃ LN, LN = wrL m.job (wtM m) := ⟨_, rfl⟩
  rw [← hLN]
  have HLN : Hid (LN = wrL m.job (wtM m)) := hLN
  clear hLN
  have hMz := owns_upon hM U7 HH.out hvf
  have hOz := owns_upon hO U7 HH.out hof
  have bk0 := E7.bk.c 0; have zb0 := whole_frozen E7.bk 0
  simp at bk0
  have md := E7.md
  have c0 := md.c 0; have c1 := md.c 1; have c2 := md.c 2; have c3 := md.c 3; have c4 := md.c 4; have c5 := md.c 5; have c6 := md.c 6; have c7 := md.c 7; have c8 := md.c 8; have c9 := md.c 9; have c10 := md.c 10; have c11 := md.c 11
  simp [mvC] at c0 c1 c2 c3 c4 c5 c6 c7 c8 c9 c10 c11
  have hhx := md.lt
  have hbh := E7.bh
  have hvb : (Value.slice va ms.length vc).ownBlock ≠ some b := by intro q; have := (hMz.lt b q).1; omega
  have hvh : (Value.slice va ms.length vc).ownBlock ≠ some h := by intro q; have := E7.vh h q; omega
  have hbx : b < y3.heap.size := by omega
  have fz : ∀ o, (y3.alloc o).drew.frozen? ⟨b, 0, none⟩ = false := fun o => whole_frozen (w := (y3.alloc o).drew) (whole_alloc E7.bk o) 0
  obtain ⟨FV, hFV⟩ : ∃ FV, FV = flatM (vsB ms sl) := ⟨_, rfl⟩
  rw [← hFV] at hMz
  have HFV : Hid (FV = flatM (vsB ms sl)) := hFV
  clear hFV
  go_upto_region 17 with fail
  go_cut [12] (fun s12 wx => ∃ g3 cap3, s12 = .string (bs LN) ∧ Bk b (.slice (some ⟨g3, 0, none⟩) (ms.length + 1) cap3) bn bj wx ∧ wx.ownsRow (b + 1) 87 12 (.slice (some ⟨g3, 0, none⟩) (ms.length + 1) cap3) (ms.length + 1) (FV ++ (mvC y).toList) ∧ Md h y wx ∧ Hid (Fe f T i7 wx) ∧ Hid (wx.ownsRow ob 9 1 (.slice (some ⟨og, 0, none⟩) on.length oc) on.length (on.map sV)) ∧ Hid (HUp b f (.slice va ms.length vc) w wx) ∧ Hid (wx.ownsRow (h + 1) 140 3 (.slice pa pn pc) m.parts.length (flatPt m.parts)))
  case first =>
    go_region_law
      ((refine step_append_lies _ (by rfl) _ _ _ (by rfl) (b + 1) 87 i0 _ 12 136 Tryz.underlying23 hI0 hz0 hz1 hz2 rfl (by omega) (.slice va ms.length vc) ms.length FV (by rfl) ((hMz.alloc _).drew)
          ⟨y3.heap.size, 0, none⟩ 1 1 (mvC y).toList (by rfl) (by rfl) (World.news_of_block (cs := mvC y) (t := 87) (fr := (0, 0)) (heap_alloc_new y3 _)) (by simp [mvC, Value.oneCell'])
          (by omega) (by unfold maxLen; omega) (by omega) (by simp; omega) (y3.heap.size + 1) (by simp) ?_; intro g3 cap3 w33 hown3 hgrow3 hat3 hlt3; have m3 : Bk b (.slice va ms.length vc) bn bj w33 := (hgrow3.block b (by simp; omega) (Ne.symm hvb)).trans (whole_alloc E7.bk _); have m3c := m3.c 0; have m3z := whole_frozen m3 0; simp at m3c))
    all_goals
      have md3 : Md h y w33 := (hgrow3.block h (by simp; omega) (Ne.symm hvh)).trans (whole_alloc md _)
      have hO3 : w33.ownsRow ob 9 1 (.slice (some ⟨og, 0, none⟩) on.length oc) on.length (on.map sV) := by
        refine (hOz.alloc (.cells (mvC y) 87)).drew.kept hgrow3 ?_
        right
        intro q
        rcases hMz.2 with ⟨q2, _⟩ | ⟨g', cap', cur', q2, _, q3, _⟩
        · rw [q2] at q; simp [Value.ownBlock] at q
        · exact row_ne hOz q3 (by decide) (by rw [q, q2]; rfl)
      have hP3 : w33.ownsRow (h + 1) 140 3 (.slice pa pn pc) m.parts.length (flatPt m.parts) := by
        refine (hPr.alloc (.cells (mvC y) 87)).drew.kept hgrow3 ?_
        by_cases hpn : (Value.slice pa pn pc).ownBlock = none
        · exact Or.inl hpn
        right
        intro q
        rcases hMz.2 with ⟨q2, _⟩ | ⟨g', cap', cur', q2, _, q3, _⟩
        · exact hpn (by rw [q, q2]; rfl)
        · exact row_ne hPr q3 (by decide) (by rw [q, q2]; rfl)
      have hF3 : Fe f T i7 w33 := E7.fd.block ((hgrow3.block f (by simp; have := E7.fd.lt; omega) (Ne.symm hvf)).trans (Below.heap_alloc _ _ _ E7.fd.lt))
      have m5 : Bk b (.slice (some ⟨g3, 0, none⟩) (ms.length + 1) cap3) bn bj (w33.setCell ⟨b, 0, none⟩ (.slice (some ⟨g3, 0, none⟩) (ms.length + 1) cap3)) := whole_set m3 0 _
      have r5 := owns_set' hown3 0 (.slice (some ⟨g3, 0, none⟩) (ms.length + 1) cap3)
      have md5 : Md h y (w33.setCell ⟨b, 0, none⟩ (.slice (some ⟨g3, 0, none⟩) (ms.length + 1) cap3)) := whole_set_ne md3 ⟨b, 0, none⟩ (by show b ≠ h; omega) _
      have hO5 := hidF (ownsRow_setCell_other (a := ⟨b, 0, none⟩) hO3 hob (.slice (some ⟨g3, 0, none⟩) (ms.length + 1) cap3))
      have hP5 := hidF (ownsRow_setCell_below (a := ⟨b, 0, none⟩) hP3 (by show b < h + 1; omega) (.slice (some ⟨g3, 0, none⟩) (ms.length + 1) cap3))
      have hF5 : Hid (Fe f T i7 (w33.setCell ⟨b, 0, none⟩ (.slice (some ⟨g3, 0, none⟩) (ms.length + 1) cap3))) := hF3.block (Below.heap_setCell _ _ _ _ (by show f ≠ b; omega))
      have U5 : Hid (HUp b f (.slice va ms.length vc) w (w33.setCell ⟨b, 0, none⟩ (.slice (some ⟨g3, 0, none⟩) (ms.length + 1) cap3))) := by
        refine ⟨hgrow3.os.trans U7.os, hgrow3.tape.trans U7.tape, hgrow3.output.trans U7.output, ?_, ?_⟩
        · have q1 := hgrow3.size; have q2 := U7.size; simp [World.setCell] at q1 ⊢; omega
        · intro i hi hib hif hiv
          have hih : i < h := by rw [HH.out]; exact hi
          rw [Below.heap_setCell _ _ _ _ (by show i ≠ b; omega), hgrow3.block i (by simp; omega) (Ne.symm hiv)]
          exact (Below.heap_alloc _ _ _ (by omega)).trans (U7.block i hih hif)
      clear hgrow3 hat3 hown3 m3 m3z m3c md3 hO3 hF3 hP3 fz
      go_wp2_with fail
      go_meet
      case rel => exact ⟨_, _, rfl, m5, r5, md5, hF5, hO5, U5, hP5⟩
  case rest =>
  obtain ⟨g3, cap3, rfl, m5, r5, md5, hF5, hO5, U5, hP5⟩ := hcut
  rename World => w5
  clear E7 U7 hPr hMz hOz bk0 zb0 md c0 c1 c2 c3 c4 c5 c6 c7 c8 c9 c10 c11 hhx hvb hvh hbx fz hM hO hB hF
  have d2 := m5.c 2; have dz := whole_frozen m5 2; have d9 := md5.c 9
  simp [mvC] at d2 d9
  rw [HYC.out] at d9
  have hcnI : (cn : Int) ≤ 6 := by omega
  have hbjI : (bj : Int) ≤ 900 := by omega
  go_upto_region 18 with fail
  go_cut [12] (fun s12 wx => s12 = .string (bs LN) ∧ wx = (w5.setCell ⟨b, 2, none⟩ (.int .i64 ((bj : Int) + (cn : Int)))).drew)
  case first =>
    go_region
    all_goals
      go_wp2_with fail
      go_meet
      case rel => exact ⟨rfl, rfl⟩
  case rest =>
  obtain ⟨rfl, rfl⟩ := hcut
  go_wp2_with fail
  go_ret
  rw [← HLN.out]
  refine And.intro rfl (Exists.intro (.slice (some ⟨g3, 0, none⟩) (ms.length + 1) cap3) (And.intro ?_ ?_))
  · rw [HCN.out]
    exact Bk.jobs m5 cn (by simp)
  refine Exists.intro pa (Exists.intro pn (Exists.intro pc ?_))
  refine And.intro ?_ (And.intro ?_ (And.intro ?_ (And.intro ?_ ?_)))
  · rw [vsB_snoc, flatM_snoc, ← HY.out, ← HFV.out]
    exact owns_set' r5 2 _
  · rw [← HH.out]
    exact ownsRow_setCell_below (a := ⟨b, 2, none⟩) hP5.out (by show b < h + 1; omega) _
  · exact hF5.out.block (Below.heap_setCell _ _ _ _ (by show f ≠ b; omega))
  · exact ownsRow_setCell_other (a := ⟨b, 2, none⟩) hO5.out hob _
  · exact (U5.out.jobs _).drew
end Go.Proofs.YtanknpmojblmcaaGreatDoor

/-
  The book's walk: a batch.
-/
set_option linter.unusedSimpArgs false
set_option linter.unusedVariables false
namespace Go.Proofs.YtanknpmojblmcaaGreatDoor
open Go.RowKit

theorem infoString : (Tryz.prog.info? 9).map (fun i => (i.zero, i.size, i.bytes)) = some (some (.string ⟨#[]⟩), 1, 16) := by kernel_rfl
theorem onL_take (k i : Nat) : onL k (i + 1) = onL k i ++ [nameL ((k + i) % 5)] := by simp [onL, List.range_succ]

theorem HUp.below {b f : Nat} {v : Value} {w w' : World} (h : HUp b f v w w') (hbf : b < f) (hb : b ≤ w.heap.size) {e : TypeId} {size n : Nat} {xs : List Value} (hM : w.ownsRow (b + 1) e size v n xs) : Below b w w' :=
  ⟨h.os, h.tape, h.output, h.size, fun k hk => h.block k (by omega) (by omega) (by omega) (fun q => by have := (hM.lt k q).1; omega)⟩

/-- What making a batch leaves. -/
def BtB (b : Nat) (ms : List MB) (sl : Nat → Sl) (bn : Nat) (w : World) (r : BS) (e : Ending) (w' : World) : Prop :=
  ∃ v' sl', e = .returned (.string (bs r.text)) ∧ Bk b v' (bn + 1) r.jobs w' ∧ w'.ownsRow (b + 1) 87 12 v' r.ms.length (flatM (vsB r.ms sl')) ∧ (∀ q, q < ms.length → sl' q = sl q) ∧ (∀ q, ms.length ≤ q → q < r.ms.length → w'.ownsRow (b + 1) 140 3 (.slice (sl' q).1 (sl' q).2.1 (sl' q).2.2) (r.ms.getD q mb0).parts.length (flatPt (r.ms.getD q mb0).parts)) ∧ Below b w w'
theorem batN_sml {ms : List MB} {on : List (List UInt8)} {bn bj nodes n i0 : Nat} {T : List UInt8} (hg : ∀ m ∈ ms, SmlB m) (hbn : bn ≤ 100) (hbj : bj ≤ 200) (hn : 1 ≤ nodes) (hn8 : nodes ≤ 8) (hol : on.length = n) (hn3 : n ≤ 3) (hnm : ∀ k, k < n → (∀ c ∈ on.getD k [], letB c.toNat = true) ∧ 1 ≤ (on.getD k []).length ∧ (on.getD k []).length ≤ 6) (h0 : 0 < n) (i : Nat) (hi : i ≤ n) :
    (batN on bn nodes n T ⟨[], ms, bj, i0⟩ i).ms.length = ms.length + i ∧ (∀ x ∈ (batN on bn nodes n T ⟨[], ms, bj, i0⟩ i).ms, SmlB x) ∧ (batN on bn nodes n T ⟨[], ms, bj, i0⟩ i).jobs ≤ bj + 18 ∧ (batN on bn nodes n T ⟨[], ms, bj, i0⟩ i).text.length ≤ 130 * i := by
  obtain ⟨ns, B, js, l, X⟩ := batN_ok (bn := bn) (bj := bj) (i0 := i0) (T := T) (fun m hm => (hg m hm).1) hn hn8 hol hnm h0 i hi
  have hc : ∀ k, k ≤ i → cntM (ns.take k) ≤ 6 * k := by
    intro k
    induction k with
    | zero => intro _; simp [cntM]
    | succ k ih =>
      intro hk
      rw [take_snoc ns (by rw [B.ln]; omega), cntM_app]
      have := ih (by omega)
      have h6 := (B.hd k (by omega)).good.c6
      have e : cntM [ns.getD k mb0] = (ns.getD k mb0).count := by simp [cntM]
      rw [e]
      omega
  have hall := hc i (Nat.le_refl _)
  rw [List.take_of_length_le (by rw [B.ln]; exact Nat.le_refl _)] at hall
  refine ⟨by rw [B.mm, List.length_append, B.ln], ?_, by rw [B.jb]; omega, X.size⟩
  rw [B.mm]
  intro x hx
  rcases List.mem_append.1 hx with q | q
  · exact hg x q
  · obtain ⟨k, hk, rfl⟩ := List.getElem_of_mem q
    have hk2 : k < i := by rw [← B.ln]; exact hk
    have H := B.hd k hk2
    have := hc k (by omega)
    rw [show ns.getD k mb0 = ns[k] from by simp [hk]] at H
    exact ⟨H.good, by rw [H.ft]; omega, by rw [H.bt]; exact hbn⟩

attribute [local go_sem ↓] Go.wp_at_zero Go.wp_at_succ
set_option maxRecDepth 100000 in
set_option maxHeartbeats 8000000 in
theorem batchE (b : Nat) (v : Value) (bn bj : Nat) (ms : List MB) (sl : Nat → Sl) (nodes : Nat) (T : ByteArray) (w : World) (hB : Bk b v bn bj w) (hM : w.ownsRow (b + 1) 87 12 v ms.length (flatM (vsB ms sl))) (hT : T.size ≤ maxLen) (hl : ms.length ≤ 36) (hg : ∀ x ∈ ms, SmlB x) (hbn : bn ≤ 99) (hbj : bj ≤ 200) (hn1' : 1 ≤ nodes) (hn8' : nodes ≤ 8) :
    Calls Tryz.prog 5 #[.pointer (some ⟨b, 0, none⟩), .string T, .int .i64 (nodes : Int)] w (BtB b ms sl bn w (batF ms bn bj nodes T.data.toList)) := by
  obtain ⟨R, hR⟩ : ∃ R, R = batF ms bn bj nodes T.data.toList := ⟨_, rfl⟩
  rw [← hR]
  have HR : Hid (R = batF ms bn bj nodes T.data.toList) := hR
  clear hR
  unfold BtB
  obtain ⟨i0, hI0, hz0, hz1, hz2⟩ := info_parts infoString
  have hbl := hB.lt
  have b1 := hB.c 1; have zb1 := whole_frozen hB 1
  simp at b1
  obtain ⟨bn1, hbn1⟩ : ∃ bn1 : Nat, bn1 = bn + 1 := ⟨_, rfl⟩
  have ebn : (bn : Int) + 1 = (bn1 : Int) := by omega
  have hbn2 : bn1 ≤ 100 := by omega
  have HBN : Hid (bn1 = bn + 1) := hbn1
  clear hbn1
  have hbnI : (bn : Int) ≤ 99 := by omega
  go_enter Tryz.func5, Tryz.ntmps5
  go_wp2_with fail
  have hF0 : Fe w.heap.size T 0 ((w.setCell ⟨b, 1, none⟩ (.int .i64 (bn1 : Int))).alloc (.cells #[.string T, .int .i64 0] 52)) := by
    have q := whole_new (w.setCell ⟨b, 1, none⟩ (.int .i64 (bn1 : Int))) (.cells #[.string T, .int .i64 0] 52 (0, 0))
    have q2 : (w.setCell ⟨b, 1, none⟩ (.int .i64 (bn1 : Int))).heap.size = w.heap.size := by simp [World.setCell]
    rw [q2] at q
    exact ⟨q, hT, Nat.zero_le _⟩
  have hB0 : Bk b v bn1 bj ((w.setCell ⟨b, 1, none⟩ (.int .i64 (bn1 : Int))).alloc (.cells #[.string T, .int .i64 0] 52)) := whole_alloc (whole_set hB 1 _) _
  have hM0 := (owns_set' hM 1 (.int .i64 (bn1 : Int))).alloc (.cells #[.string T, .int .i64 0] 52)
  have hW0 : Below b w ((w.setCell ⟨b, 1, none⟩ (.int .i64 (bn1 : Int))).alloc (.cells #[.string T, .int .i64 0] 52)) := ((Below.refl b w).setCell (p := ⟨b, 1, none⟩) (Nat.le_refl _) (.int .i64 (bn1 : Int))).alloc (by simp [World.setCell]; omega) _
  clear b1 zb1 hB hM ebn
  generalize (w.setCell ⟨b, 1, none⟩ (.int .i64 (bn1 : Int))).alloc (.cells #[.string T, .int .i64 0] 52) = x0 at *
  generalize hff : w.heap.size = f at *
  have hbf : b < f := by omega
  have hbf' : f ≠ b := by omega
  clear hff
  -- how many, and which names
  refine (nextB f 3 T 0 _ hF0 (by omega) (by omega)).mono ?_
  rintro e x1 ⟨he, hF1, ha1⟩
  obtain ⟨k1, hk1e⟩ : ∃ k1, k1 = nxV T.data.toList 0 3 := ⟨_, rfl⟩
  have hk1 : k1 < 3 := by rw [hk1e]; exact nxV_lt _ _ (by omega)
  obtain ⟨q1, hq1⟩ : ∃ q1, q1 = nxI T.data.toList 0 := ⟨_, rfl⟩
  rw [← hk1e] at he
  rw [← hq1] at hF1
  subst he
  have hB1 : Bk b v bn1 bj x1 := (ha1.block b hB0.lt (by omega)).trans hB0
  have hvf : v.ownBlock ≠ some f := row_ne hM0 hF0.1 (by decide)
  have hM1 := hM0.kept ha1.grownBy (Or.inr hvf)
  have hW1 : Below b w x1 := hW0.trans (ha1.below_of (Nat.le_of_lt hbf) (Nat.le_of_lt hB0.lt))
  clear ha1 hF0 hB0 hM0 hW0
  obtain ⟨n, hn⟩ : ∃ n : Nat, n = 1 + k1 := ⟨_, rfl⟩
  have en : (1 : Int) + (k1 : Int) = (n : Int) := by omega
  have hn1 : 1 ≤ n ∧ n ≤ 3 := by omega
  have HNB : Hid (n = nB T.data.toList) := by show _ = _; unfold nB; rw [hn, hk1e]
  clear hn hk1e hk1
  go_wp2_with fail
  refine (nextB f 5 T q1 _ hF1 (by omega) (by omega)).mono ?_
  rintro e x2 ⟨he, hF2, ha2⟩
  obtain ⟨k, hke⟩ : ∃ k, k = nxV T.data.toList q1 5 := ⟨_, rfl⟩
  have hk : k < 5 := by rw [hke]; exact nxV_lt _ _ (by omega)
  obtain ⟨q2, hq2⟩ : ∃ q2, q2 = nxI T.data.toList q1 := ⟨_, rfl⟩
  rw [← hke] at he
  rw [← hq2] at hF2
  subst he
  have HKB : Hid (k = kB T.data.toList) := by show _ = _; unfold kB; rw [hke, hq1]
  have HQ2 : Hid (q2 = nxI T.data.toList (nxI T.data.toList 0)) := by show _ = _; rw [hq2, hq1]
  clear hke hq2 hq1
  have hB2 : Bk b v bn1 bj x2 := (ha2.block b hB1.lt (by omega)).trans hB1
  have hM2 := hM1.kept ha2.grownBy (Or.inr hvf)
  have hW2 : Below b w x2 := hW1.trans (ha2.below_of (Nat.le_of_lt hbf) (Nat.le_of_lt hB1.lt))
  clear ha2 hF1 hB1 hM1 hW1 en
  go_wp2_with fail
  have hx2 := hB2.lt
  have hfx2 := hF2.lt
  go_loopg [8, 11] (n + 1) (fun r ov x wr => ∃ i : Nat, i ≤ n ∧ r = n - i + 1 ∧ x = .int .i64 (i : Int) ∧ wr.ownsRow x2.heap.size 9 1 ov i ((onL k i).map sV) ∧ Below x2.heap.size x2 wr)
  case atStart => exact ⟨0, Nat.zero_le _, rfl, rfl, World.ownsRow_nil _ _ _ _, Below.refl _ _⟩
  case round =>
    obtain ⟨i, hi, rfl, rfl, hown, hBx⟩ := hrel
    by_cases hlt : i < n
    · have hlt' : (i : Int) < (n : Int) := by omega
      have hkI : (k : Int) ≤ 5 := by omega
      have hiI : (i : Int) ≤ 3 := by omega
      obtain ⟨ki, hki⟩ : ∃ ki : Nat, ki = k + i := ⟨_, rfl⟩
      have eki : (k : Int) + (i : Int) = (ki : Int) := by omega
      have hki2 : ki ≤ 100 := by omega
      have HKI : Hid (ki = k + i) := hki
      clear hki
      go_wp2_with fail
      refine (letters_any ki hki2 _).mono ?_
      rintro e x3 ⟨rfl, hB3⟩
      have hown3 := owns_below hown hB3
      have hBx3 := hBx.trans (hB3.mono hBx.size)
      have hsz3 := hBx3.size
      go_wp2_with (at_builtin; refine wpList_append_own _ rfl _ _ 53 rfl x2.heap.size 9 i0 (.string ⟨#[]⟩) 1 16 Tryz.underlying53 hI0 hz0 hz1 hz2 rfl (by decide) _ i _ rfl (hown3.alloc _) ⟨x3.heap.size, 0, none⟩ 1 1 [.string (bs (nameL (ki % 5)))] rfl rfl (World.news_of_block (cs := #[.string (bs (nameL (ki % 5)))]) (t := 9) (fr := (0, 0)) (heap_alloc_new x3 _)) ?c2 ?c3 ?c4 ?c5 ?_)
      case c2 => first | rfl | (intro u hu; simp at hu; subst hu; rfl)
      case c3 => unfold maxLen; omega
      case c4 => omega
      case c5 => first | omega | (simp; omega)
      intro v4 x4 hown4 hgrow4 _
      have hBx4 : Below x2.heap.size x2 x4 := (hBx3.alloc (by omega) _).grown hgrow4 (by simp; omega) (fun q hq => (hown3.lt q hq).1)
      replace hown4 : x4.ownsRow x2.heap.size 9 1 v4 (i + 1) ((onL k (i + 1)).map sV) := by
        rw [onL_take, ← HKI.out]; simpa [sV] using hown4
      clear hgrow4 hown3 hown hB3 hBx hBx3
      go_wp2_with fail
      go_roundg (n - (i + 1) + 1)
      case measure => omega
      case rel => exact ⟨i + 1, by omega, rfl, by go_num, hown4, hBx4⟩
    · have hlt' : decide ((i : Int) < (n : Int)) = false := by simp; omega
      have hin : i = n := by omega
      subst hin
      have hon : (onL k i).length = i := onL_len k i
      have hF3 : Fe f T q2 wr := hF2.block (hBx.block f hfx2)
      have hB3 : Bk b v bn1 bj wr := (hBx.block b hx2).trans hB2
      have hM3 := owns_below hM2 hBx
      have hW3 : Below b w wr := hW2.trans (hBx.mono (Nat.le_of_lt hx2))
      clear hF2 hB2 hM2 hW2 hBx hlt hlt'
      obtain ⟨on, hone⟩ : ∃ on, on = onL k i := ⟨_, rfl⟩
      rw [← hone] at hown hon
      have HON : Hid (on = onL k i) := hone
      clear hone
      have hown' := hown
      rw [← hon] at hown'
      clear hown
      generalize i = n at *
      obtain ⟨oa, oc, hof⟩ := (Ow.of hown').form
      subst hof
      have HONL : Hid (on.length = n) := hon
      clear hon
      have HNM : Hid (∀ q, q < n → (∀ c ∈ on.getD q [], letB c.toNat = true) ∧ 1 ≤ (on.getD q []).length ∧ (on.getD q []).length ≤ 6) := by
        intro q hq
        have hq' : q < on.length := by rw [HONL.out]; exact hq
        have e : on.getD q [] = nameL ((k + q) % 5) := by
          rw [show on.getD q [] = on[q] from by simp [hq']]
          simp only [HON.out]
          exact onL_get k n q (by rw [onL_len]; exact hq)
        rw [e]; exact nameL_ok _
      have HSM : Hid (∀ i, i ≤ n → (batN on bn1 nodes n T.data.toList ⟨[], ms, bj, q2⟩ i).ms.length = ms.length + i ∧ (∀ x ∈ (batN on bn1 nodes n T.data.toList ⟨[], ms, bj, q2⟩ i).ms, SmlB x) ∧ (batN on bn1 nodes n T.data.toList ⟨[], ms, bj, q2⟩ i).jobs ≤ bj + 18 ∧ (batN on bn1 nodes n T.data.toList ⟨[], ms, bj, q2⟩ i).text.length ≤ 130 * i) :=
        fun i hi => batN_sml hg (by omega) hbj hn1' hn8' HONL.out (by omega) HNM.out (by omega) i hi
      have HRR : Hid (R = batN on bn1 nodes n T.data.toList ⟨[], ms, bj, q2⟩ n) := by
        show _ = _
        rw [HR.out]
        unfold batF
        rw [HON.out, HKB.out, HNB.out, HBN.out, HQ2.out]
      clear hg
      go_wp2_with fail
      go_loopg [12, 13] (n + 1) (fun r sv x wz => ∃ (i : Nat) (v1 : Value) (sl1 : Nat → Sl) (X : BS), i ≤ n ∧ r = n - i + 1 ∧ x = .int .i64 (i : Int) ∧ Hid (X = batN on bn1 nodes n T.data.toList ⟨[], ms, bj, q2⟩ i) ∧ sv = .string (bs X.text) ∧ Bk b v1 bn1 X.jobs wz ∧ wz.ownsRow (b + 1) 87 12 v1 X.ms.length (flatM (vsB X.ms sl1)) ∧ Fe f T X.at_ wz ∧ wz.ownsRow x2.heap.size 9 1 (.slice oa on.length oc) on.length (on.map sV) ∧ Below b w wz ∧ Hid (∀ q, q < ms.length → sl1 q = sl q) ∧ Hid (∀ q, ms.length ≤ q → q < X.ms.length → wz.ownsRow (b + 1) 140 3 (.slice (sl1 q).1 (sl1 q).2.1 (sl1 q).2.2) (X.ms.getD q mb0).parts.length (flatPt (X.ms.getD q mb0).parts)))
      case atStart => exact ⟨0, v, sl, ⟨[], ms, bj, q2⟩, Nat.zero_le _, rfl, rfl, rfl, rfl, hB3, hM3, hF3, hown', hW3, fun _ _ => rfl, fun q h1 h2 => by have h2 : q < ms.length := h2; omega⟩
      case round =>
        obtain ⟨i, v1, sl1, X, hi, rfl, rfl, HX, rfl, hB4, hM4, hF4, hO4, hW4, HS1, HP1⟩ := hrel
        obtain ⟨m1, m2, m3, m4⟩ := HSM.out i hi
        rw [← HX.out] at m1 m2 m3 m4
        have zS := bs_size X.text
        by_cases hlt : i < n
        · have hlt' : (i : Int) < (n : Int) := by omega
          have hvf4 : v1.ownBlock ≠ some f := row_ne hM4 hF4.1 (by decide)
          have hof4 : (Value.slice oa on.length oc).ownBlock ≠ some f := row_ne hO4 hF4.1 (by decide)
          have hion : i < on.length := by rw [HONL.out]; exact hlt
          have HNMK : Hid ((∀ c ∈ on[i], letB c.toNat = true) ∧ 1 ≤ on[i].length ∧ on[i].length ≤ 6) := by
            have := HNM.out i hlt
            rwa [show on.getD i [] = on[i] from by simp [hion]] at this
          have HX1 : Hid (batN on bn1 nodes n T.data.toList ⟨[], ms, bj, q2⟩ (i + 1) = ⟨X.text ++ cmdT (decide (nxV T.data.toList X.at_ 4 = 1)) on[i] ++ wrL (headB X.ms on bn1 X.jobs nodes i T.data.toList (nxI T.data.toList X.at_)).1.job (wtM (headB X.ms on bn1 X.jobs nodes i T.data.toList (nxI T.data.toList X.at_)).1) ++ endT (decide (i + 1 < n)), X.ms ++ [(headB X.ms on bn1 X.jobs nodes i T.data.toList (nxI T.data.toList X.at_)).1], X.jobs + (headB X.ms on bn1 X.jobs nodes i T.data.toList (nxI T.data.toList X.at_)).1.count, (headB X.ms on bn1 X.jobs nodes i T.data.toList (nxI T.data.toList X.at_)).2⟩) := by
            show _ = _
            rw [batN, ← HX.out]
            try dsimp only
            rw [show on.getD i [] = on[i] from by simp [hion]]
          go_wp2_with fail
          refine (nextB f 4 T X.at_ _ hF4 (by omega) (by omega)).mono ?_
          rintro e y4 ⟨he, hF5, ha5⟩
          have hB5 : Bk b v1 bn1 X.jobs y4 := (ha5.block b hB4.lt (by omega)).trans hB4
          have hM5 := hM4.kept ha5.grownBy (Or.inr hvf4)
          have hO5 := hO4.kept ha5.grownBy (Or.inr hof4)
          have hW5 : Below b w y4 := hW4.trans (ha5.below_of (Nat.le_of_lt hbf) (Nat.le_of_lt hB4.lt))
          have HP5 : Hid (∀ q, ms.length ≤ q → q < X.ms.length → y4.ownsRow (b + 1) 140 3 (.slice (sl1 q).1 (sl1 q).2.1 (sl1 q).2.2) (X.ms.getD q mb0).parts.length (flatPt (X.ms.getD q mb0).parts)) := fun q h1 h2 => (HP1.out q h1 h2).kept ha5.grownBy (Or.inr (row_ne (HP1.out q h1 h2) hF4.1 (by decide)))
          clear ha5 hB4 hM4 hO4 hW4 hF4 HP1
          obtain ⟨c4, hc4⟩ : ∃ c4, c4 = nxV T.data.toList X.at_ 4 := ⟨_, rfl⟩
          have hc4l : c4 < 4 := by rw [hc4]; exact nxV_lt _ _ (by omega)
          obtain ⟨i1, hi1⟩ : ∃ i1, i1 = nxI T.data.toList X.at_ := ⟨_, rfl⟩
          rw [← hc4] at he HX1
          rw [← hi1] at hF5 HX1
          subst he
          clear hc4 hi1
          have hownf := Ow.of hO5
          have HOF : Hid _ := hownf
          clear hownf
          go_upto_if 49 with fail
          go_cut [12] (fun s12 wx => s12 = .string (bs (X.text ++ cmdT (decide (c4 = 1)) on[i])) ∧ wx = y4)
          case first =>
            by_cases hc41 : c4 = 1
            · subst hc41
              rcases HOF.out with ⟨_, hq⟩ | ⟨og, ocap, hq, hoc, hog, hocell⟩
              · rw [hq] at hion; simp at hion
              cases hq
              have oi := hocell i hion
              have zn := bs_size on[i]
              have zn6 := HNMK.out.2.2
              have hiI : (i : Int) < (on.length : Int) := by omega
              clear hocell HX1
              go_wp2_with fail
              go_meet
              case rel =>
                refine ⟨?_, rfl⟩
                congr 1
                simp only [cmdT]
                simp [← bs_append, ByteArray.append_assoc]; rfl
            · have hc4' : ((c4 : Int) == 1) = false := by rw [beq_eq_false_iff_ne]; omega
              clear HX1
              go_wp2_with fail
              go_meet
              case rel => exact ⟨by rw [decide_eq_false hc41]; simp [cmdT], rfl⟩
          case rest =>
            obtain ⟨rfl, rfl⟩ := hcut
            rename World => y4
            have HCM : Hid ((cmdT (decide (c4 = 1)) on[i]).length ≤ 11) := by
              have := HNMK.out.2.2
              show _ ≤ _
              unfold cmdT
              split <;> simp <;> omega
            obtain ⟨S2, hS2⟩ : ∃ S2, S2 = X.text ++ cmdT (decide (c4 = 1)) on[i] := ⟨_, rfl⟩
            have hS2l : S2.length ≤ 500 := by rw [hS2, List.length_append]; have := HCM.out; omega
            rw [← hS2] at HX1 ⊢
            have zS2 := bs_size S2
            clear hS2 HCM
            go_wp2_with fail
            refine (headE b f x2.heap.size v1 bn1 X.jobs X.ms sl1 _ on nodes i T i1 _ hB5 hM5 hO5 hF5 hion (by have := HONL.out; omega) (by omega) m2 (by omega) (by omega) hn1' hn8' HNMK.out).mono ?_
            rintro e y5 ⟨v6, s6, he, hB6, hM6, hP6, hF6, hO6, hU6⟩
            have HH := headB_ok (ms := X.ms) (own := on) (bn := bn1) (bj := X.jobs) (nodes := nodes) (k := i) (T := T.data.toList) (i := i1) (fun x hx => (m2 x hx).1) hn1' hn8' (HNM.out i hlt)
            obtain ⟨H, hH⟩ : ∃ H, H = headB X.ms on bn1 X.jobs nodes i T.data.toList i1 := ⟨_, rfl⟩
            rw [← hH] at he hB6 hM6 hP6 hF6 HH HX1
            clear hH
            subst he
            have hW6 : Below b w y5 := hW5.trans (hU6.below hbf (Nat.le_of_lt hB5.lt) hM5)
            have hlen6 : (wrL H.1.job (wtM H.1)).length ≤ 115 := by obtain ⟨_, _, q⟩ := line_of HH.good; exact q
            have zl := bs_size (wrL H.1.job (wtM H.1))
            have hb6 := hB6.lt
            have HSL : Hid (∀ q, q < ms.length → slS X.ms.length s6 sl1 q = sl q) := by
              intro q hq
              unfold slS
              rw [if_neg (by omega)]
              exact HS1.out q hq
            have HP7 : Hid (∀ q, ms.length ≤ q → q < (X.ms ++ [H.1]).length → y5.ownsRow (b + 1) 140 3 (.slice (slS X.ms.length s6 sl1 q).1 (slS X.ms.length s6 sl1 q).2.1 (slS X.ms.length s6 sl1 q).2.2) ((X.ms ++ [H.1]).getD q mb0).parts.length (flatPt ((X.ms ++ [H.1]).getD q mb0).parts)) := by
              intro q h1 h2
              by_cases e : q = X.ms.length
              · have e1 : slS X.ms.length s6 sl1 q = s6 := by unfold slS; rw [if_pos e]
                have e2 : (X.ms ++ [H.1]).getD q mb0 = H.1 := by rw [e]; simp
                rw [e1, e2]
                exact ownsRow_base hP6 (by have := hB5.lt; omega)
              · have hq : q < X.ms.length := by simp at h2; omega
                have e1 : slS X.ms.length s6 sl1 q = sl1 q := by unfold slS; rw [if_neg e]
                have e2 : (X.ms ++ [H.1]).getD q mb0 = X.ms.getD q mb0 := by simp [List.getElem?_append, hq]
                rw [e1, e2]
                have hP := HP5.out q h1 hq
                refine owns_same hP (fun g hg => hU6.block g (hP.lt g hg).2 ?_ ?_ ?_)
                · have := (hP.lt g hg).1; omega
                · intro e; exact row_ne hP hF5.1 (by decide) (by rw [hg, e])
                · exact fun e => rows_ne hM5 hP (by decide) g hg e
            clear HP5 HS1 hB5 hM5 hF5 hO5 hW5 hU6 hP6 HH
            have hM7 : y5.ownsRow (b + 1) 87 12 v6 (X.ms ++ [H.1]).length (flatM (vsB (X.ms ++ [H.1]) (slS X.ms.length s6 sl1))) := by
              rw [List.length_append, List.length_singleton]; exact hM6
            clear hM6
            obtain ⟨LN, hLN⟩ : ∃ LN, LN = wrL H.1.job (wtM H.1) := ⟨_, rfl⟩
            rw [← hLN] at HX1 hlen6 zl ⊢
            clear hLN
            by_cases hlast : i + 1 < n
            · have hlast' : (i : Int) + 1 < (n : Int) := by omega
              rw [decide_eq_true hlast] at HX1
              go_wp2_with fail
              go_roundg (n - (i + 1) + 1)
              case measure => omega
              case rel =>
                refine ⟨i + 1, v6, _, _, by omega, rfl, by go_num, HX1.out.symm, ?_, hB6, hM7, hF6, hO6, hW6, HSL, HP7⟩
                congr 1
            · have hlast' : decide ((i : Int) + 1 < (n : Int)) = false := by simp; omega
              rw [decide_eq_false hlast] at HX1
              go_wp2_with fail
              go_roundg (n - (i + 1) + 1)
              case measure => omega
              case rel =>
                refine ⟨i + 1, v6, _, _, by omega, rfl, by go_num, HX1.out.symm, ?_, hB6, hM7, hF6, hO6, hW6, HSL, HP7⟩
                congr 1
                simp only [endT]
                simp [← bs_append]
        · have hlt' : decide ((i : Int) < (n : Int)) = false := by simp; omega
          have hin : i = n := by omega
          have HE : Hid (R = X) := by show _ = _; rw [HRR.out, HX.out, hin]
          go_wp2_with fail
          go_ret
          rw [HE.out]
          refine ⟨v1, sl1, rfl, ?_, hM4, HS1.out, HP1.out, hW4⟩
          rw [← HBN.out]; exact hB4
end Go.Proofs.YtanknpmojblmcaaGreatDoor
