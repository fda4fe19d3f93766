/-
  A head that is made, and its line.
-/
import Derived.Test.YtanknpmojblmcaaDoorKWant
set_option linter.unusedSimpArgs false
set_option linter.unusedVariables false
namespace Go.Proofs.YtanknpmojblmcaaDoor
open Go.RowKit

def sV (s : List UInt8) : Value := .string (bs s)
theorem Ow.of {w : World} {base : Nat} {v : Value} {on : List (List UInt8)} (h : w.ownsRow base 9 1 v on.length (on.map sV)) : Ow v on w := by
  rcases h.2 with ⟨hv, hn⟩ | ⟨g, cap, cur, hv, h1, h2, h3, h4, h5, h6⟩
  · exact Or.inl ⟨hv, List.eq_nil_of_length_eq_zero hn⟩
  · right
    subst hv
    refine ⟨g, cap, rfl, h3, whole_lt h2, ?_⟩
    intro k hk
    rw [h.cellAt k (by omega)]
    simp [sV, List.getElem?_eq_getElem hk]
theorem Md.set {h : Nat} {m m' : MV} {w : World} (x : Md h m w) (k : Nat) (u : Value) (e : (mvC m).setIfInBounds k u = mvC m') : Md h m' (w.setCell ⟨h, k, none⟩ u) := by
  unfold Md; rw [← e]; exact whole_set x k u
theorem Env.put {b f h : Nat} {v : Value} {bn bj : Nat} {ms : List MV} {ov : Value} {on : List (List UInt8)} {m m' : MV} {c : Nat} {w : World} (E : Env b f h v bn bj ms ov on m c w) (k : Nat) (u : Value) (e : (mvC m).setIfInBounds k u = mvC m') (ep : Value.slice m'.pa m'.pn m'.pc = Value.slice m.pa m.pn m.pc) :
    Env b f h v bn bj ms ov on m' c (w.setCell ⟨h, k, none⟩ u) := by
  obtain ⟨n, xs, hn, hown⟩ := E.pt
  refine E.next ((Below.refl h w).setCell (Nat.le_refl _) u) (E.md.set k u e) ⟨n, xs, hn, ?_⟩
  rw [ep]
  exact ownsRow_setCell_below hown (by show h < h + 1; omega) u

/-- All blocks but the book, the feed and the row of heads are as they were. -/
structure HUp (b f : Nat) (v : Value) (w w' : World) : Prop where
  os : w'.os = w.os
  tape : w'.tape = w.tape
  output : w'.output = w.output
  size : w.heap.size ≤ w'.heap.size
  block : ∀ k, k < w.heap.size → k ≠ b → k ≠ f → v.ownBlock ≠ some k → w'.heap[k]? = w.heap[k]?

theorem owns_upon {w w' : World} {f h base : Nat} {e : TypeId} {size : Nat} {v : Value} {n : Nat} {xs : List Value} (hr : w.ownsRow base e size v n xs) (U : Upon f h w w') (hh : h = w.heap.size) (hv : v.ownBlock ≠ some f) : w'.ownsRow base e size v n xs :=
  hr.kept (row := some f) ⟨U.os, U.tape, U.output, U.size, fun k hk hb => U.block k (by omega) (fun e => hb (by rw [e]))⟩ (Or.inr hv)
theorem Bk.jobs {b : Nat} {v : Value} {n j : Nat} {w : World} (h : Bk b v n j w) (k : Nat) {u : Value} (hu : u = .int .i64 ((j + k : Nat) : Int)) : Bk b v n (j + k) (w.setCell ⟨b, 2, none⟩ u) := by
  subst hu; exact whole_set h 2 _
theorem HUp.jobs {b f : Nat} {v : Value} {w w' : World} (h : HUp b f v w w') (u : Value) {k : Nat} : HUp b f v w (w'.setCell ⟨b, k, none⟩ u) :=
  ⟨h.os, h.tape, h.output, by simpa [World.setCell] using h.size, fun i hi hb hf hv => by rw [Below.heap_setCell _ _ _ _ (by show i ≠ b; omega)]; exact h.block i hi hb hf hv⟩
theorem HUp.drew {b f : Nat} {v : Value} {w w' : World} (h : HUp b f v w w') : HUp b f v w w'.drew := ⟨h.os, h.tape, h.output, h.size, h.block⟩
theorem fac_ne (d : Nat) {W : List UInt8} {p : List UInt8 × Nat} (h : FacP AtomP d W p) : W ≠ [] := by
  cases d with
  | zero => exact h.1.2.1
  | succ d =>
    rcases h with h | ⟨M, rfl, _⟩
    · exact h.1.2.1
    · simp
theorem gen_ne {d n : Nat} {t : List UInt8} (h : GenT d n t) : t ≠ [] := by
  obtain ⟨⟨p, l, h1, h2, h3, _⟩, _⟩ := h
  cases l with
  | nil => exact absurd rfl h1
  | cons x r =>
    have := fac_ne d (h2 x (by simp))
    rw [h3]
    intro q
    simp [jnl] at q
    exact this q.1
/-- What making a head leaves. -/
def HdR (b f ob : Nat) (v : Value) (bn bj : Nat) (ms : List MV) (ov : Value) (on : List (List UInt8)) (nm : List UInt8) (w : World) (e : Ending) (w' : World) : Prop :=
  ∃ m v', e = .returned (.string (bs (wrL m.job m.want))) ∧ GoodM m ∧ m.job.name = nm ∧ m.job.after = [] ∧ (m.want = [] ∨ (m.want ≠ [] ∧ GenT 2 (kL 2) m.want)) ∧ Bk b v' bn (bj + m.count) w' ∧ w'.ownsRow (b + 1) 35 12 v' (ms.length + 1) (flatM (ms ++ [m])) ∧ FdA f w' ∧ w'.ownsRow ob 9 1 ov on.length (on.map sV) ∧ HUp b f v w w'

def NameOK (s : List UInt8) : Prop := (∀ c ∈ s, letB c.toNat = true) ∧ 1 ≤ s.length ∧ s.length ≤ 6

theorem infoMade : (Tryd.prog.info? 35).map (fun i => (i.zero, i.size, i.bytes)) = some (some (.agg (mvC ⟨0, jv0, 0, 0, [], none, 0, 0⟩)), 12, 136) := by kernel_rfl

attribute [local go_sem ↓] Go.wp_at_zero Go.wp_at_succ
set_option maxRecDepth 100000 in
set_option maxHeartbeats 8000000 in
theorem headB_any (b f ob : Nat) (v : Value) (bn bj : Nat) (ms : List MV) (ov : Value) (on : List (List UInt8)) (k : Nat) (w : World) (hB : Bk b v bn bj w) (hM : w.ownsRow (b + 1) 35 12 v ms.length (flatM ms)) (hO : w.ownsRow ob 9 1 ov on.length (on.map sV)) (hF : FdA f w)
    (hk : k < on.length) (hol : on.length ≤ 3) (hl : ms.length ≤ 5) (hg : ∀ x ∈ ms, GoodM x) (hbn : bn ≤ 100) (hbj : bj ≤ 900) (hnm : NameOK on[k]) :
    Calls Tryd.prog 10 #[.pointer (some ⟨b, 0, none⟩), .pointer (some ⟨f, 0, none⟩), .int .i64 8, .int .i64 (k : Int), ov] w (HdR b f ob v bn bj ms ov on on[k] w) := by
  unfold HdR
  obtain ⟨i0, hI0, hz0, hz1, hz2⟩ := info_parts infoMade
  have b1 := hB.c 1; have b2 := hB.c 2
  simp at b1 b2
  have hbl := hB.lt
  have hfl := hF.lt
  have hbf : b ≠ f := by
    obtain ⟨T, i, hfd, _⟩ := hF
    intro q; subst q
    have := hB.symm.trans hfd
    injection this with this
    injection this with _ h2 _
    exact absurd h2 (by decide)
  have hvf : v.ownBlock ≠ some f := by obtain ⟨T, i, hfd, _⟩ := hF; exact row_ne hM hfd (by decide)
  have hof : ov.ownBlock ≠ some f := by obtain ⟨T, i, hfd, _⟩ := hF; exact row_ne hO hfd (by decide)
  have hob : ov.ownBlock ≠ some b := row_ne hO hB (by decide)
  go_enter Tryd.func10, Tryd.ntmps10
  go_wp2_with fail
  go_region
  --GEN
  obtain ⟨va, vc, rfl⟩ : ∃ va vc, v = .slice va ms.length vc := by
    rcases hM.2 with ⟨rfl, hn0⟩ | ⟨g, cap, cur, rfl, _⟩
    · rw [hn0]; exact ⟨_, _, rfl⟩
    · exact ⟨_, _, rfl⟩
  have hnn := hnm
  obtain ⟨nm, hnme⟩ : ∃ nm, nm = on[k] := ⟨_, rfl⟩
  rw [← hnme] at hnn
  have HNM : Hid (on[k] = nm) := hnme.symm
  have E : Env b f w.heap.size _ bn bj ms ov on ⟨bn, jv0, bj, 1, [], none, 0, 0⟩ 0 (w.alloc (.cells #[.int .i64 (bn : Int), .string ⟨#[]⟩, .int .i64 0, .int .i64 0, .bool false, .int .i64 0, .int .i64 0, .string ⟨#[]⟩, .int .i64 (bj : Int), .int .i64 1, .string ⟨#[]⟩, .slice none 0 0] 35)).drew :=
    ⟨whole_alloc hB _, Ms.of (hM.alloc _), Ow.of (hO.alloc _), hF.alloc _, whole_new w _, ⟨0, [], Nat.le_refl _, World.ownsRow_nil _ _ _ _⟩, hbl, hfl, fun g hg => (hM.lt g hg).2, fun g hg => (hO.lt g hg).2, hbf, hvf, hof⟩
  have U : Upon f w.heap.size w (w.alloc (.cells #[.int .i64 (bn : Int), .string ⟨#[]⟩, .int .i64 0, .int .i64 0, .bool false, .int .i64 0, .int .i64 0, .string ⟨#[]⟩, .int .i64 (bj : Int), .int .i64 1, .string ⟨#[]⟩, .slice none 0 0] 35)).drew := Upon.below ((Below.refl _ w).alloc (Nat.le_refl _) _).drew
  generalize (w.alloc (.cells #[.int .i64 (bn : Int), .string ⟨#[]⟩, .int .i64 0, .int .i64 0, .bool false, .int .i64 0, .int .i64 0, .string ⟨#[]⟩, .int .i64 (bj : Int), .int .i64 1, .string ⟨#[]⟩, .slice none 0 0] 35)).drew = x0 at *
  obtain ⟨h, hh⟩ : ∃ h, h = w.heap.size := ⟨_, rfl⟩
  rw [← hh] at E U ⊢
  have HH : Hid (h = w.heap.size) := hh
  clear hh
  -- the name
  obtain ⟨oa, oc, rfl⟩ := E.ow.form
  have oi : x0.cell? ⟨0, 0, none⟩ = x0.cell? ⟨0, 0, none⟩ := rfl
  rcases E.ow with ⟨_, hon⟩ | ⟨og, ocap, hq, hoc, hog, hocell⟩
  · rw [hon] at hk; simp at hk
  cases hq
  replace oi := hocell k hk
  rw [HNM.out] at oi
  have hkl : (k : Int) < (on.length : Int) := by omega
  have c1 := E.md.c 1; have z1 := E.md.z 1
  simp [mvC] at c1
  clear hocell hnme
  go_wp2_with fail
  replace E := E.put (m' := ⟨bn, ⟨nm, 0, 0, false, 0, 0, []⟩, bj, 1, [], none, 0, 0⟩) 1 (.string (bs nm)) rfl rfl
  replace U := U.trans (Upon.below ((Below.refl h x0).setCell (p := ⟨h, 1, none⟩) (Nat.le_refl _) (.string (bs nm))))
  clear c1 z1 oi
  generalize x0.setCell ⟨h, 1, none⟩ (.string (bs nm)) = x1 at *
  -- the nodes
  refine (next_any f 8 _ E.fd (by omega) (by omega)).mono ?_
  rintro e x2 ⟨k1, hk1, rfl, hf1, ha1⟩
  replace U := U.trans (Upon.aside ha1 (Nat.le_of_lt E.hlt))
  replace E := E.feed ha1 hf1
  clear ha1 hf1
  obtain ⟨nd, hnd⟩ : ∃ nd : Nat, nd = 1 + k1 := ⟨_, rfl⟩
  have en : (1 : Int) + (k1 : Int) = (nd : Int) := by omega
  have hnd1 : 1 ≤ nd ∧ nd ≤ 8 := by omega
  clear hnd
  have c2 := E.md.c 2; have z2 := E.md.z 2
  simp [mvC] at c2
  go_wp2_with fail
  replace E := E.put (m' := ⟨bn, ⟨nm, nd, 0, false, 0, 0, []⟩, bj, 1, [], none, 0, 0⟩) 2 (.int .i64 (nd : Int)) rfl rfl
  replace U := U.trans (Upon.below ((Below.refl h x2).setCell (p := ⟨h, 2, none⟩) (Nat.le_refl _) (.int .i64 (nd : Int))))
  clear c2 z2 en
  generalize x2.setCell ⟨h, 2, none⟩ (.int .i64 (nd : Int)) = x3 at *
  -- the time
  refine (next_any f 12 _ E.fd (by omega) (by omega)).mono ?_
  rintro e x4 ⟨k2, hk2, rfl, hf1, ha1⟩
  replace U := U.trans (Upon.aside ha1 (Nat.le_of_lt E.hlt))
  replace E := E.feed ha1 hf1
  clear ha1 hf1
  obtain ⟨tm, htm⟩ : ∃ tm : Nat, tm = 1 + k2 := ⟨_, rfl⟩
  have en : (1 : Int) + (k2 : Int) = (tm : Int) := by omega
  have htm1 : 1 ≤ tm ∧ tm ≤ 12 := by omega
  clear htm
  have c2 := E.md.c 3; have z2 := E.md.z 3
  simp [mvC] at c2
  go_wp2_with fail
  replace E := E.put (m' := ⟨bn, ⟨nm, nd, tm, false, 0, 0, []⟩, bj, 1, [], none, 0, 0⟩) 3 (.int .i64 (tm : Int)) rfl rfl
  replace U := U.trans (Upon.below ((Below.refl h x4).setCell (p := ⟨h, 3, none⟩) (Nat.le_refl _) (.int .i64 (tm : Int))))
  clear c2 z2 en
  generalize x4.setCell ⟨h, 3, none⟩ (.int .i64 (tm : Int)) = x5 at *
  -- the line's beginning
  have s1 := bs_size nm
  have s2 := bs_size (dig2 nd)
  have s3 := bs_size (dig2 tm)
  have l2 := dig2_len nd
  have l3 := dig2_len tm
  have hn6 := hnn.2.2
  have e1 : ¬ 9223372036854775807 < 3 + nm.length := by omega
  have e2 : ¬ 9223372036854775807 < 3 + nm.length + 7 := by omega
  have e3 : ¬ 9223372036854775807 < 3 + nm.length + 7 + (dig2 nd).length := by omega
  have e4 : ¬ 9223372036854775807 < 3 + nm.length + 7 + (dig2 nd).length + 6 := by omega
  have e5 : ¬ 9223372036854775807 < 3 + nm.length + 7 + (dig2 nd).length + 6 + (dig2 tm).length := by omega
  have hnd12 : nd ≤ 12 := by omega
  have htm12 : tm ≤ 12 := by omega
  have c1 := E.md.c 1; have c2 := E.md.c 2; have c3 := E.md.c 3
  simp [mvC] at c1 c2 c3
  go_region_held3 (fun w' => w'.cell? ⟨h, 1, none⟩ = some (.string (bs nm)) ∧ w'.cell? ⟨h, 2, none⟩ = some (.int .i64 (nd : Int)) ∧ w'.cell? ⟨h, 3, none⟩ = some (.int .i64 (tm : Int)))
    (go_keep)
    (first
      | (go_at_call 14; refine (itoa_any nd hnd12 _).mono ?_; rintro e w' ⟨rfl, rfl⟩)
      | (go_at_call 14; refine (itoa_any tm htm12 _).mono ?_; rintro e w' ⟨rfl, rfl⟩))
  have E0s := wr0_bs ⟨nm, nd, tm, false, 0, 0, []⟩
  simp only at E0s
  rw [E0s]
  clear e1 e2 e3 e4 e5 E0s c1 c2 c3
  replace E := E.drewN 1
  replace U := U.trans (Upon.below (below_drewN (Below.refl h x5) 1))
  replace E : Env b f h _ bn bj ms _ on ⟨bn, ⟨nm, nd, tm, false, 0, 0, []⟩, bj, 1, [], none, 0, 0⟩ 0 x5.drew := E
  replace U : Upon f h w x5.drew := U
  generalize x5.drew = x6 at *
  have s7 := bs_size (wr0 ⟨nm, nd, tm, false, 0, 0, []⟩)
  have l7 : (wr0 ⟨nm, nd, tm, false, 0, 0, []⟩).length ≤ 40 := by unfold wr0; simp; omega
  go_wp2_with fail
  refine (next_any f 4 _ E.fd (by omega) (by omega)).mono ?_
  rintro e x7 ⟨k4, hk4, rfl, hf1, ha1⟩
  replace U := U.trans (Upon.aside ha1 (Nat.le_of_lt E.hlt))
  replace E := E.feed ha1 hf1
  clear ha1 hf1
  by_cases hk41 : k4 = 1
  · subst hk41
    go_wp2_with fail
    refine (next_any f 6 _ E.fd (by omega) (by omega)).mono ?_
    rintro e x8 ⟨k6, hk6, rfl, hf1, ha1⟩
    replace U := U.trans (Upon.aside ha1 (Nat.le_of_lt E.hlt))
    replace E := E.feed ha1 hf1
    clear ha1 hf1
    obtain ⟨cn, hcn⟩ : ∃ cn : Nat, cn = 1 + k6 := ⟨_, rfl⟩
    have en : (1 : Int) + (k6 : Int) = (cn : Int) := by omega
    have hcn1 : 1 ≤ cn ∧ cn ≤ 6 := by omega
    clear hcn
    have c9 := E.md.c 9; have z9 := E.md.z 9; have c4 := E.md.c 4; have z4 := E.md.z 4
    simp [mvC] at c9 c4
    go_wp2_with fail
    replace E := E.put (m' := ⟨bn, ⟨nm, nd, tm, false, 0, 0, []⟩, bj, cn, [], none, 0, 0⟩) 9 (.int .i64 (cn : Int)) rfl rfl
    replace E := E.put (m' := ⟨bn, ⟨nm, nd, tm, true, 0, 0, []⟩, bj, cn, [], none, 0, 0⟩) 4 (.bool true) rfl rfl
    replace U := U.trans (Upon.below (((Below.refl h x8).setCell (p := ⟨h, 9, none⟩) (Nat.le_refl _) (.int .i64 (cn : Int))).setCell (p := ⟨h, 4, none⟩) (Nat.le_refl _) (.bool true)))
    clear c9 z9 c4 z4 en
    generalize (x8.setCell ⟨h, 9, none⟩ (.int .i64 (cn : Int))).setCell ⟨h, 4, none⟩ (.bool true) = x9 at *
    refine (next_any f 3 _ E.fd (by omega) (by omega)).mono ?_
    rintro e x10 ⟨lo, hlo, rfl, hf1, ha1⟩
    replace U := U.trans (Upon.aside ha1 (Nat.le_of_lt E.hlt))
    replace E := E.feed ha1 hf1
    clear ha1 hf1
    obtain ⟨hi, hhi⟩ : ∃ hi : Nat, hi = lo + cn - 1 := ⟨_, rfl⟩
    have en : (lo : Int) + (cn : Int) - 1 = (hi : Int) := by omega
    have hhi1 : lo + cn = hi + 1 ∧ hi ≤ 12 ∧ lo ≤ 2 := by omega
    clear hhi
    have hloI : (lo : Int) ≤ 2 := by omega
    have hcnI : (cn : Int) ≤ 6 := by omega
    have c5 := E.md.c 5; have z5 := E.md.z 5; have c6 := E.md.c 6; have z6 := E.md.z 6; have c9 := E.md.c 9
    simp [mvC] at c5 c6 c9
    go_wp2_with fail
    replace E := E.put (m' := ⟨bn, ⟨nm, nd, tm, true, lo, 0, []⟩, bj, cn, [], none, 0, 0⟩) 5 (.int .i64 (lo : Int)) rfl rfl
    replace E := E.put (m' := ⟨bn, ⟨nm, nd, tm, true, lo, hi, []⟩, bj, cn, [], none, 0, 0⟩) 6 (.int .i64 (hi : Int)) rfl rfl
    replace U := U.trans (Upon.below (((Below.refl h x10).setCell (p := ⟨h, 5, none⟩) (Nat.le_refl _) (.int .i64 (lo : Int))).setCell (p := ⟨h, 6, none⟩) (Nat.le_refl _) (.int .i64 (hi : Int))))
    clear c5 z5 c6 z6 c9 en
    generalize (x10.setCell ⟨h, 5, none⟩ (.int .i64 (lo : Int))).setCell ⟨h, 6, none⟩ (.int .i64 (hi : Int)) = x11 at *
    have c5 := E.md.c 5; have c6 := E.md.c 6
    simp [mvC] at c5 c6
    have s4 := bs_size (dig2 lo)
    have s5 := bs_size (dig2 hi)
    have l4 := dig2_len lo
    have l5 := dig2_len hi
    have hlo12 : lo ≤ 12 := by omega
    have hhi12 : hi ≤ 12 := by omega
    obtain ⟨W0, hW0⟩ : ∃ W0, W0 = wr0 ⟨nm, nd, tm, false, 0, 0, []⟩ := ⟨_, rfl⟩
    have HW0 : Hid (W0 = wr0 ⟨nm, nd, tm, true, lo, hi, []⟩) := hW0
    rw [← hW0] at s7 l7 ⊢
    clear hW0
    have e1 : ¬ 9223372036854775807 < W0.length + 7 := by omega
    have e2 : ¬ 9223372036854775807 < W0.length + 7 + (dig2 lo).length := by omega
    have e3 : ¬ 9223372036854775807 < W0.length + 7 + (dig2 lo).length + 1 := by omega
    have e4 : ¬ 9223372036854775807 < W0.length + 7 + (dig2 lo).length + 1 + (dig2 hi).length := by omega
    go_region_held3 (fun w' => w'.cell? ⟨h, 5, none⟩ = some (.int .i64 (lo : Int)) ∧ w'.cell? ⟨h, 6, none⟩ = some (.int .i64 (hi : Int)))
      (go_keep)
      (first
        | (go_at_call 14; refine (itoa_any lo hlo12 _).mono ?_; rintro e w' ⟨rfl, rfl⟩)
        | (go_at_call 14; refine (itoa_any hi hhi12 _).mono ?_; rintro e w' ⟨rfl, rfl⟩))
    have EAs := wrA_bs ⟨nm, nd, tm, true, lo, hi, []⟩ rfl
    simp only at EAs
    rw [← HW0.out] at EAs
    rw [EAs]
    clear e1 e2 e3 e4 EAs c5 c6
    replace E := E.drewN 1
    replace U := U.trans (Upon.below (below_drewN (Below.refl h x11) 1))
    replace E : Env b f h (.slice va ms.length vc) bn bj ms (.slice (some ⟨og, 0, none⟩) on.length oc) on ⟨bn, ⟨nm, nd, tm, true, lo, hi, []⟩, bj, cn, [], none, 0, 0⟩ 0 x11.drew := E
    replace U : Upon f h w x11.drew := U
    generalize x11.drew = x12 at *
    have s9 := bs_size (wrA ⟨nm, nd, tm, true, lo, hi, []⟩)
    have l9 : (wrA ⟨nm, nd, tm, true, lo, hi, []⟩).length ≤ 60 := by unfold wrA wr0; simp; omega
    go_wp2_with fail
    refine (next_any f 3 _ E.fd (by omega) (by omega)).mono ?_
    rintro e y1 ⟨k7, hk7, rfl, hf1, ha1⟩
    replace U := U.trans (Upon.aside ha1 (Nat.le_of_lt E.hlt))
    replace E := E.feed ha1 hf1
    clear ha1 hf1
    have bk0 := E.bk.c 0
    simp at bk0
    by_cases hk70 : k7 = 0
    · subst hk70
      clear bk0
      go_wp2_with fail
      have hMz := owns_upon hM U HH.out hvf
      have hOz := owns_upon hO U HH.out hof
      have bk0 := E.bk.c 0; have zb0 := whole_frozen E.bk 0
      simp at bk0
      have md := E.md
      have c0 := md.c 0; have c1 := md.c 1; have c2 := md.c 2; have c3 := md.c 3; have c4 := md.c 4; have c5 := md.c 5; have c6 := md.c 6; have c7 := md.c 7; have c8 := md.c 8; have c9 := md.c 9; have c10 := md.c 10; have c11 := md.c 11
      simp [mvC] at c0 c1 c2 c3 c4 c5 c6 c7 c8 c9 c10 c11
      have hhx := md.lt
      have hbh := E.bh
      have hvb : (Value.slice va ms.length vc).ownBlock ≠ some b := by intro q; have := (hMz.lt b q).1; omega
      have hvh : (Value.slice va ms.length vc).ownBlock ≠ some h := by intro q; have := E.vh h q; omega
      have hbx : b < y1.heap.size := by omega
      have fz : ∀ o, (y1.alloc o).drew.frozen? ⟨b, 0, none⟩ = false := fun o => whole_frozen (w := (y1.alloc o).drew) (whole_alloc E.bk o) 0
      have HGM : Hid (GoodM (⟨bn, ⟨nm, nd, tm, true, lo, hi, []⟩, bj, cn, [], none, 0, 0⟩ : MV)) := ⟨⟨hnn.1, hnn.2.1, hnn.2.2, hnd1, htm1, (fun _ => ⟨by show lo ≤ hi; omega, by show hi < lo + 6; omega, by show hi ≤ 12; omega⟩), (fun q => by cases q)⟩, by show 1 ≤ cn; omega, by show cn ≤ 6; omega, (fun _ => by show lo + cn = hi + 1; omega), by show bj ≤ 1000; omega, hbn⟩
      go_region_law
        ((refine step_append_lies _ (by rfl) _ _ _ (by rfl) (b + 1) 35 i0 _ 12 136 Tryd.underlying23 hI0 hz0 hz1 hz2 rfl (by omega) (.slice va ms.length vc) ms.length (flatM ms) (by rfl) ((hMz.alloc _).drew)
            ⟨y1.heap.size, 0, none⟩ 1 1 (mvC (⟨bn, ⟨nm, nd, tm, true, lo, hi, []⟩, bj, cn, [], none, 0, 0⟩ : MV)).toList (by rfl) (by rfl) (World.news_of_block (cs := mvC (⟨bn, ⟨nm, nd, tm, true, lo, hi, []⟩, bj, cn, [], none, 0, 0⟩ : MV)) (t := 35) (fr := (0, 0)) (heap_alloc_new y1 _)) (by simp [mvC, Value.oneCell'])
            (by omega) (by unfold maxLen; omega) (by omega) (by simp; omega) (y1.heap.size + 1) (by simp) ?_; intro g3 cap3 w33 hown3 hgrow3 hat3 hlt3; have m3 : Bk b (.slice va ms.length vc) bn bj w33 := (hgrow3.block b (by simp; omega) (Ne.symm hvb)).trans (whole_alloc E.bk _); have m3c := m3.c 0; have m3z := whole_frozen m3 0; simp at m3c))
      all_goals
        have md3 : Md h (⟨bn, ⟨nm, nd, tm, true, lo, hi, []⟩, bj, cn, [], none, 0, 0⟩ : MV) w33 := (hgrow3.block h (by simp; omega) (Ne.symm hvh)).trans (whole_alloc md _)
        have hO3 : w33.ownsRow ob 9 1 (.slice (some ⟨og, 0, none⟩) on.length oc) on.length (on.map sV) := by
          refine (hOz.alloc (.cells (mvC (⟨bn, ⟨nm, nd, tm, true, lo, hi, []⟩, bj, cn, [], none, 0, 0⟩ : MV)) 35)).drew.kept hgrow3 ?_
          right
          intro q
          rcases hMz.2 with ⟨q2, _⟩ | ⟨g', cap', cur', q2, _, q3, _⟩
          · rw [q2] at q; simp [Value.ownBlock] at q
          · exact row_ne hOz q3 (by decide) (by rw [q, q2]; rfl)
        have hF3 : FdA f w33 := ((E.fd.alloc (.cells (mvC (⟨bn, ⟨nm, nd, tm, true, lo, hi, []⟩, bj, cn, [], none, 0, 0⟩ : MV)) 35))).block (hgrow3.block f (by simp; have := E.fd.lt; omega) (Ne.symm hvf))
        have m5 : Bk b (.slice (some ⟨g3, 0, none⟩) (ms.length + 1) cap3) bn bj (w33.setCell ⟨b, 0, none⟩ (.slice (some ⟨g3, 0, none⟩) (ms.length + 1) cap3)) := whole_set m3 0 _
        have r5 : (w33.setCell ⟨b, 0, none⟩ (.slice (some ⟨g3, 0, none⟩) (ms.length + 1) cap3)).ownsRow (b + 1) 35 12 (.slice (some ⟨g3, 0, none⟩) (ms.length + 1) cap3) (ms.length + 1) (flatM (ms ++ [(⟨bn, ⟨nm, nd, tm, true, lo, hi, []⟩, bj, cn, [], none, 0, 0⟩ : MV)])) := by
          rw [flatM_snoc]; exact owns_set' hown3 0 _
        have md5 : Md h (⟨bn, ⟨nm, nd, tm, true, lo, hi, []⟩, bj, cn, [], none, 0, 0⟩ : MV) (w33.setCell ⟨b, 0, none⟩ (.slice (some ⟨g3, 0, none⟩) (ms.length + 1) cap3)) := whole_set_ne md3 ⟨b, 0, none⟩ (by show b ≠ h; omega) _
        have hO5 := ownsRow_setCell_other (a := ⟨b, 0, none⟩) hO3 hob (.slice (some ⟨g3, 0, none⟩) (ms.length + 1) cap3)
        have hF5 : FdA f (w33.setCell ⟨b, 0, none⟩ (.slice (some ⟨g3, 0, none⟩) (ms.length + 1) cap3)) := hF3.block (Below.heap_setCell _ _ _ _ (by show f ≠ b; omega))
        have U5 : HUp b f (.slice va ms.length vc) w (w33.setCell ⟨b, 0, none⟩ (.slice (some ⟨g3, 0, none⟩) (ms.length + 1) cap3)) := by
          refine ⟨hgrow3.os.trans U.os, hgrow3.tape.trans U.tape, hgrow3.output.trans U.output, ?_, ?_⟩
          · have q1 := hgrow3.size; have q2 := U.size; simp [World.setCell] at q1 ⊢; omega
          · intro i hi hib hif hiv
            have hih : i < h := by rw [HH.out]; exact hi
            rw [Below.heap_setCell _ _ _ _ (by show i ≠ b; omega), hgrow3.block i (by simp; omega) (Ne.symm hiv)]
            exact (Below.heap_alloc _ _ _ (by omega)).trans (U.block i hih hif)
        clear hgrow3 hat3 hown3 m3 m3z m3c md3 hO3 hF3 fz
        generalize w33.setCell ⟨b, 0, none⟩ (.slice (some ⟨g3, 0, none⟩) (ms.length + 1) cap3) = w5 at *
        have d2 := m5.c 2; have dz := whole_frozen m5 2; have d9 := md5.c 9
        simp [mvC] at d2 d9
        go_wp2_with fail
        go_region
        all_goals
          go_wp2_with fail
          go_ret
          refine ⟨(⟨bn, ⟨nm, nd, tm, true, lo, hi, []⟩, bj, cn, [], none, 0, 0⟩ : MV), _, ret_str (by simp [wrL]), HGM.out, HNM.out.symm, rfl, Or.inl rfl, Bk.jobs m5 cn (by simp), owns_set' r5 2 _, ?_, ?_, ?_⟩
          · exact (hF5.block (Below.heap_setCell _ _ _ _ (by show f ≠ b; omega)))
          · exact ownsRow_setCell_other (a := ⟨b, 2, none⟩) hO5 hob _
          · exact (U5.jobs _).drew
    · have hk7' : (0 : Int) < (k7 : Int) := by omega
      go_wp2_with fail
      refine (wantB_any b f h _ bn bj ms _ on ⟨bn, ⟨nm, nd, tm, true, lo, hi, []⟩, bj, cn, [], none, 0, 0⟩ 0 _ E (by decide) (by omega) hol hg hbn).mono ?_
      rintro e y2 ⟨t, pa, pn, pc, rfl, ht, E2, U2⟩
      replace U := U.trans U2
      replace E : Env b f h (.slice va ms.length vc) bn bj ms (.slice (some ⟨og, 0, none⟩) on.length oc) on ⟨bn, ⟨nm, nd, tm, true, lo, hi, []⟩, bj, cn, [], pa, pn, pc⟩ (0 + kP 2) y2 := E2
      have htne := gen_ne ht
      have htl := ht.2
      have hkl2 : kL 2 = 65 := rfl
      have s8 := bs_size t
      have HWT : Hid (t ≠ [] ∧ GenT 2 (kL 2) t) := ⟨htne, ht⟩
      clear ht E2 U2 bk0 htne
      have c10 := E.md.c 10; have z10 := E.md.z 10
      simp [mvC] at c10
      go_wp2_with fail
      replace E := E.put (m' := ⟨bn, ⟨nm, nd, tm, true, lo, hi, []⟩, bj, cn, t, pa, pn, pc⟩) 10 (.string (bs t)) rfl rfl
      replace U := U.trans (Upon.below ((Below.refl h y2).setCell (p := ⟨h, 10, none⟩) (Nat.le_refl _) (.string (bs t))))
      clear c10 z10
      generalize y2.setCell ⟨h, 10, none⟩ (.string (bs t)) = y3 at *
      have hMz := owns_upon hM U HH.out hvf
      have hOz := owns_upon hO U HH.out hof
      have bk0 := E.bk.c 0; have zb0 := whole_frozen E.bk 0
      simp at bk0
      have md := E.md
      have c0 := md.c 0; have c1 := md.c 1; have c2 := md.c 2; have c3 := md.c 3; have c4 := md.c 4; have c5 := md.c 5; have c6 := md.c 6; have c7 := md.c 7; have c8 := md.c 8; have c9 := md.c 9; have c10 := md.c 10; have c11 := md.c 11
      simp [mvC] at c0 c1 c2 c3 c4 c5 c6 c7 c8 c9 c10 c11
      have hhx := md.lt
      have hbh := E.bh
      have hvb : (Value.slice va ms.length vc).ownBlock ≠ some b := by intro q; have := (hMz.lt b q).1; omega
      have hvh : (Value.slice va ms.length vc).ownBlock ≠ some h := by intro q; have := E.vh h q; omega
      have hbx : b < y3.heap.size := by omega
      have fz : ∀ o, (y3.alloc o).drew.frozen? ⟨b, 0, none⟩ = false := fun o => whole_frozen (w := (y3.alloc o).drew) (whole_alloc E.bk o) 0
      have HGM : Hid (GoodM (⟨bn, ⟨nm, nd, tm, true, lo, hi, []⟩, bj, cn, t, pa, pn, pc⟩ : MV)) := ⟨⟨hnn.1, hnn.2.1, hnn.2.2, hnd1, htm1, (fun _ => ⟨by show lo ≤ hi; omega, by show hi < lo + 6; omega, by show hi ≤ 12; omega⟩), (fun q => by cases q)⟩, by show 1 ≤ cn; omega, by show cn ≤ 6; omega, (fun _ => by show lo + cn = hi + 1; omega), by show bj ≤ 1000; omega, hbn⟩
      go_region_law
        ((refine step_append_lies _ (by rfl) _ _ _ (by rfl) (b + 1) 35 i0 _ 12 136 Tryd.underlying23 hI0 hz0 hz1 hz2 rfl (by omega) (.slice va ms.length vc) ms.length (flatM ms) (by rfl) ((hMz.alloc _).drew)
            ⟨y3.heap.size, 0, none⟩ 1 1 (mvC (⟨bn, ⟨nm, nd, tm, true, lo, hi, []⟩, bj, cn, t, pa, pn, pc⟩ : MV)).toList (by rfl) (by rfl) (World.news_of_block (cs := mvC (⟨bn, ⟨nm, nd, tm, true, lo, hi, []⟩, bj, cn, t, pa, pn, pc⟩ : MV)) (t := 35) (fr := (0, 0)) (heap_alloc_new y3 _)) (by simp [mvC, Value.oneCell'])
            (by omega) (by unfold maxLen; omega) (by omega) (by simp; omega) (y3.heap.size + 1) (by simp) ?_; intro g3 cap3 w33 hown3 hgrow3 hat3 hlt3; have m3 : Bk b (.slice va ms.length vc) bn bj w33 := (hgrow3.block b (by simp; omega) (Ne.symm hvb)).trans (whole_alloc E.bk _); have m3c := m3.c 0; have m3z := whole_frozen m3 0; simp at m3c))
      all_goals
        have md3 : Md h (⟨bn, ⟨nm, nd, tm, true, lo, hi, []⟩, bj, cn, t, pa, pn, pc⟩ : MV) w33 := (hgrow3.block h (by simp; omega) (Ne.symm hvh)).trans (whole_alloc md _)
        have hO3 : w33.ownsRow ob 9 1 (.slice (some ⟨og, 0, none⟩) on.length oc) on.length (on.map sV) := by
          refine (hOz.alloc (.cells (mvC (⟨bn, ⟨nm, nd, tm, true, lo, hi, []⟩, bj, cn, t, pa, pn, pc⟩ : MV)) 35)).drew.kept hgrow3 ?_
          right
          intro q
          rcases hMz.2 with ⟨q2, _⟩ | ⟨g', cap', cur', q2, _, q3, _⟩
          · rw [q2] at q; simp [Value.ownBlock] at q
          · exact row_ne hOz q3 (by decide) (by rw [q, q2]; rfl)
        have hF3 : FdA f w33 := ((E.fd.alloc (.cells (mvC (⟨bn, ⟨nm, nd, tm, true, lo, hi, []⟩, bj, cn, t, pa, pn, pc⟩ : MV)) 35))).block (hgrow3.block f (by simp; have := E.fd.lt; omega) (Ne.symm hvf))
        have m5 : Bk b (.slice (some ⟨g3, 0, none⟩) (ms.length + 1) cap3) bn bj (w33.setCell ⟨b, 0, none⟩ (.slice (some ⟨g3, 0, none⟩) (ms.length + 1) cap3)) := whole_set m3 0 _
        have r5 : (w33.setCell ⟨b, 0, none⟩ (.slice (some ⟨g3, 0, none⟩) (ms.length + 1) cap3)).ownsRow (b + 1) 35 12 (.slice (some ⟨g3, 0, none⟩) (ms.length + 1) cap3) (ms.length + 1) (flatM (ms ++ [(⟨bn, ⟨nm, nd, tm, true, lo, hi, []⟩, bj, cn, t, pa, pn, pc⟩ : MV)])) := by
          rw [flatM_snoc]; exact owns_set' hown3 0 _
        have md5 : Md h (⟨bn, ⟨nm, nd, tm, true, lo, hi, []⟩, bj, cn, t, pa, pn, pc⟩ : MV) (w33.setCell ⟨b, 0, none⟩ (.slice (some ⟨g3, 0, none⟩) (ms.length + 1) cap3)) := whole_set_ne md3 ⟨b, 0, none⟩ (by show b ≠ h; omega) _
        have hO5 := ownsRow_setCell_other (a := ⟨b, 0, none⟩) hO3 hob (.slice (some ⟨g3, 0, none⟩) (ms.length + 1) cap3)
        have hF5 : FdA f (w33.setCell ⟨b, 0, none⟩ (.slice (some ⟨g3, 0, none⟩) (ms.length + 1) cap3)) := hF3.block (Below.heap_setCell _ _ _ _ (by show f ≠ b; omega))
        have U5 : HUp b f (.slice va ms.length vc) w (w33.setCell ⟨b, 0, none⟩ (.slice (some ⟨g3, 0, none⟩) (ms.length + 1) cap3)) := by
          refine ⟨hgrow3.os.trans U.os, hgrow3.tape.trans U.tape, hgrow3.output.trans U.output, ?_, ?_⟩
          · have q1 := hgrow3.size; have q2 := U.size; simp [World.setCell] at q1 ⊢; omega
          · intro i hi hib hif hiv
            have hih : i < h := by rw [HH.out]; exact hi
            rw [Below.heap_setCell _ _ _ _ (by show i ≠ b; omega), hgrow3.block i (by simp; omega) (Ne.symm hiv)]
            exact (Below.heap_alloc _ _ _ (by omega)).trans (U.block i hih hif)
        clear hgrow3 hat3 hown3 m3 m3z m3c md3 hO3 hF3 fz
        generalize w33.setCell ⟨b, 0, none⟩ (.slice (some ⟨g3, 0, none⟩) (ms.length + 1) cap3) = w5 at *
        have d2 := m5.c 2; have dz := whole_frozen m5 2; have d9 := md5.c 9
        simp [mvC] at d2 d9
        go_wp2_with fail
        go_region
        all_goals
          go_wp2_with fail
          go_ret
          refine ⟨(⟨bn, ⟨nm, nd, tm, true, lo, hi, []⟩, bj, cn, t, pa, pn, pc⟩ : MV), _, ret_str (by rw [← wrL_bs _ HWT.out.1]), HGM.out, HNM.out.symm, rfl, Or.inr HWT.out, Bk.jobs m5 cn (by simp), owns_set' r5 2 _, ?_, ?_, ?_⟩
          · exact (hF5.block (Below.heap_setCell _ _ _ _ (by show f ≠ b; omega)))
          · exact ownsRow_setCell_other (a := ⟨b, 2, none⟩) hO5 hob _
          · exact (U5.jobs _).drew
  · have hk4' : ((k4 : Int) == 1) = false := by rw [beq_eq_false_iff_ne]; omega
    go_wp2_with fail
    refine (next_any f 3 _ E.fd (by omega) (by omega)).mono ?_
    rintro e y1 ⟨k7, hk7, rfl, hf1, ha1⟩
    replace U := U.trans (Upon.aside ha1 (Nat.le_of_lt E.hlt))
    replace E := E.feed ha1 hf1
    clear ha1 hf1
    have bk0 := E.bk.c 0
    simp at bk0
    by_cases hk70 : k7 = 0
    · subst hk70
      clear bk0
      go_wp2_with fail
      have hMz := owns_upon hM U HH.out hvf
      have hOz := owns_upon hO U HH.out hof
      have bk0 := E.bk.c 0; have zb0 := whole_frozen E.bk 0
      simp at bk0
      have md := E.md
      have c0 := md.c 0; have c1 := md.c 1; have c2 := md.c 2; have c3 := md.c 3; have c4 := md.c 4; have c5 := md.c 5; have c6 := md.c 6; have c7 := md.c 7; have c8 := md.c 8; have c9 := md.c 9; have c10 := md.c 10; have c11 := md.c 11
      simp [mvC] at c0 c1 c2 c3 c4 c5 c6 c7 c8 c9 c10 c11
      have hhx := md.lt
      have hbh := E.bh
      have hvb : (Value.slice va ms.length vc).ownBlock ≠ some b := by intro q; have := (hMz.lt b q).1; omega
      have hvh : (Value.slice va ms.length vc).ownBlock ≠ some h := by intro q; have := E.vh h q; omega
      have hbx : b < y1.heap.size := by omega
      have fz : ∀ o, (y1.alloc o).drew.frozen? ⟨b, 0, none⟩ = false := fun o => whole_frozen (w := (y1.alloc o).drew) (whole_alloc E.bk o) 0
      have HGM : Hid (GoodM (⟨bn, ⟨nm, nd, tm, false, 0, 0, []⟩, bj, 1, [], none, 0, 0⟩ : MV)) := ⟨⟨hnn.1, hnn.2.1, hnn.2.2, hnd1, htm1, (fun q => by cases q), (fun _ => ⟨rfl, rfl⟩)⟩, by show 1 ≤ 1; omega, by show 1 ≤ 6; omega, (fun q => by cases q), by show bj ≤ 1000; omega, hbn⟩
      go_region_law
        ((refine step_append_lies _ (by rfl) _ _ _ (by rfl) (b + 1) 35 i0 _ 12 136 Tryd.underlying23 hI0 hz0 hz1 hz2 rfl (by omega) (.slice va ms.length vc) ms.length (flatM ms) (by rfl) ((hMz.alloc _).drew)
            ⟨y1.heap.size, 0, none⟩ 1 1 (mvC (⟨bn, ⟨nm, nd, tm, false, 0, 0, []⟩, bj, 1, [], none, 0, 0⟩ : MV)).toList (by rfl) (by rfl) (World.news_of_block (cs := mvC (⟨bn, ⟨nm, nd, tm, false, 0, 0, []⟩, bj, 1, [], none, 0, 0⟩ : MV)) (t := 35) (fr := (0, 0)) (heap_alloc_new y1 _)) (by simp [mvC, Value.oneCell'])
            (by omega) (by unfold maxLen; omega) (by omega) (by simp; omega) (y1.heap.size + 1) (by simp) ?_; intro g3 cap3 w33 hown3 hgrow3 hat3 hlt3; have m3 : Bk b (.slice va ms.length vc) bn bj w33 := (hgrow3.block b (by simp; omega) (Ne.symm hvb)).trans (whole_alloc E.bk _); have m3c := m3.c 0; have m3z := whole_frozen m3 0; simp at m3c))
      all_goals
        have md3 : Md h (⟨bn, ⟨nm, nd, tm, false, 0, 0, []⟩, bj, 1, [], none, 0, 0⟩ : MV) w33 := (hgrow3.block h (by simp; omega) (Ne.symm hvh)).trans (whole_alloc md _)
        have hO3 : w33.ownsRow ob 9 1 (.slice (some ⟨og, 0, none⟩) on.length oc) on.length (on.map sV) := by
          refine (hOz.alloc (.cells (mvC (⟨bn, ⟨nm, nd, tm, false, 0, 0, []⟩, bj, 1, [], none, 0, 0⟩ : MV)) 35)).drew.kept hgrow3 ?_
          right
          intro q
          rcases hMz.2 with ⟨q2, _⟩ | ⟨g', cap', cur', q2, _, q3, _⟩
          · rw [q2] at q; simp [Value.ownBlock] at q
          · exact row_ne hOz q3 (by decide) (by rw [q, q2]; rfl)
        have hF3 : FdA f w33 := ((E.fd.alloc (.cells (mvC (⟨bn, ⟨nm, nd, tm, false, 0, 0, []⟩, bj, 1, [], none, 0, 0⟩ : MV)) 35))).block (hgrow3.block f (by simp; have := E.fd.lt; omega) (Ne.symm hvf))
        have m5 : Bk b (.slice (some ⟨g3, 0, none⟩) (ms.length + 1) cap3) bn bj (w33.setCell ⟨b, 0, none⟩ (.slice (some ⟨g3, 0, none⟩) (ms.length + 1) cap3)) := whole_set m3 0 _
        have r5 : (w33.setCell ⟨b, 0, none⟩ (.slice (some ⟨g3, 0, none⟩) (ms.length + 1) cap3)).ownsRow (b + 1) 35 12 (.slice (some ⟨g3, 0, none⟩) (ms.length + 1) cap3) (ms.length + 1) (flatM (ms ++ [(⟨bn, ⟨nm, nd, tm, false, 0, 0, []⟩, bj, 1, [], none, 0, 0⟩ : MV)])) := by
          rw [flatM_snoc]; exact owns_set' hown3 0 _
        have md5 : Md h (⟨bn, ⟨nm, nd, tm, false, 0, 0, []⟩, bj, 1, [], none, 0, 0⟩ : MV) (w33.setCell ⟨b, 0, none⟩ (.slice (some ⟨g3, 0, none⟩) (ms.length + 1) cap3)) := whole_set_ne md3 ⟨b, 0, none⟩ (by show b ≠ h; omega) _
        have hO5 := ownsRow_setCell_other (a := ⟨b, 0, none⟩) hO3 hob (.slice (some ⟨g3, 0, none⟩) (ms.length + 1) cap3)
        have hF5 : FdA f (w33.setCell ⟨b, 0, none⟩ (.slice (some ⟨g3, 0, none⟩) (ms.length + 1) cap3)) := hF3.block (Below.heap_setCell _ _ _ _ (by show f ≠ b; omega))
        have U5 : HUp b f (.slice va ms.length vc) w (w33.setCell ⟨b, 0, none⟩ (.slice (some ⟨g3, 0, none⟩) (ms.length + 1) cap3)) := by
          refine ⟨hgrow3.os.trans U.os, hgrow3.tape.trans U.tape, hgrow3.output.trans U.output, ?_, ?_⟩
          · have q1 := hgrow3.size; have q2 := U.size; simp [World.setCell] at q1 ⊢; omega
          · intro i hi hib hif hiv
            have hih : i < h := by rw [HH.out]; exact hi
            rw [Below.heap_setCell _ _ _ _ (by show i ≠ b; omega), hgrow3.block i (by simp; omega) (Ne.symm hiv)]
            exact (Below.heap_alloc _ _ _ (by omega)).trans (U.block i hih hif)
        clear hgrow3 hat3 hown3 m3 m3z m3c md3 hO3 hF3 fz
        generalize w33.setCell ⟨b, 0, none⟩ (.slice (some ⟨g3, 0, none⟩) (ms.length + 1) cap3) = w5 at *
        have d2 := m5.c 2; have dz := whole_frozen m5 2; have d9 := md5.c 9
        simp [mvC] at d2 d9
        go_wp2_with fail
        go_region
        all_goals
          go_wp2_with fail
          go_ret
          refine ⟨(⟨bn, ⟨nm, nd, tm, false, 0, 0, []⟩, bj, 1, [], none, 0, 0⟩ : MV), _, ret_str (by simp [wrL, wrA]), HGM.out, HNM.out.symm, rfl, Or.inl rfl, Bk.jobs m5 1 (by simp), owns_set' r5 2 _, ?_, ?_, ?_⟩
          · exact (hF5.block (Below.heap_setCell _ _ _ _ (by show f ≠ b; omega)))
          · exact ownsRow_setCell_other (a := ⟨b, 2, none⟩) hO5 hob _
          · exact (U5.jobs _).drew
    · have hk7' : (0 : Int) < (k7 : Int) := by omega
      go_wp2_with fail
      refine (wantB_any b f h _ bn bj ms _ on ⟨bn, ⟨nm, nd, tm, false, 0, 0, []⟩, bj, 1, [], none, 0, 0⟩ 0 _ E (by decide) (by omega) hol hg hbn).mono ?_
      rintro e y2 ⟨t, pa, pn, pc, rfl, ht, E2, U2⟩
      replace U := U.trans U2
      replace E : Env b f h (.slice va ms.length vc) bn bj ms (.slice (some ⟨og, 0, none⟩) on.length oc) on ⟨bn, ⟨nm, nd, tm, false, 0, 0, []⟩, bj, 1, [], pa, pn, pc⟩ (0 + kP 2) y2 := E2
      have htne := gen_ne ht
      have htl := ht.2
      have hkl2 : kL 2 = 65 := rfl
      have s8 := bs_size t
      have HWT : Hid (t ≠ [] ∧ GenT 2 (kL 2) t) := ⟨htne, ht⟩
      clear ht E2 U2 bk0 htne
      have c10 := E.md.c 10; have z10 := E.md.z 10
      simp [mvC] at c10
      go_wp2_with fail
      replace E := E.put (m' := ⟨bn, ⟨nm, nd, tm, false, 0, 0, []⟩, bj, 1, t, pa, pn, pc⟩) 10 (.string (bs t)) rfl rfl
      replace U := U.trans (Upon.below ((Below.refl h y2).setCell (p := ⟨h, 10, none⟩) (Nat.le_refl _) (.string (bs t))))
      clear c10 z10
      generalize y2.setCell ⟨h, 10, none⟩ (.string (bs t)) = y3 at *
      have hMz := owns_upon hM U HH.out hvf
      have hOz := owns_upon hO U HH.out hof
      have bk0 := E.bk.c 0; have zb0 := whole_frozen E.bk 0
      simp at bk0
      have md := E.md
      have c0 := md.c 0; have c1 := md.c 1; have c2 := md.c 2; have c3 := md.c 3; have c4 := md.c 4; have c5 := md.c 5; have c6 := md.c 6; have c7 := md.c 7; have c8 := md.c 8; have c9 := md.c 9; have c10 := md.c 10; have c11 := md.c 11
      simp [mvC] at c0 c1 c2 c3 c4 c5 c6 c7 c8 c9 c10 c11
      have hhx := md.lt
      have hbh := E.bh
      have hvb : (Value.slice va ms.length vc).ownBlock ≠ some b := by intro q; have := (hMz.lt b q).1; omega
      have hvh : (Value.slice va ms.length vc).ownBlock ≠ some h := by intro q; have := E.vh h q; omega
      have hbx : b < y3.heap.size := by omega
      have fz : ∀ o, (y3.alloc o).drew.frozen? ⟨b, 0, none⟩ = false := fun o => whole_frozen (w := (y3.alloc o).drew) (whole_alloc E.bk o) 0
      have HGM : Hid (GoodM (⟨bn, ⟨nm, nd, tm, false, 0, 0, []⟩, bj, 1, t, pa, pn, pc⟩ : MV)) := ⟨⟨hnn.1, hnn.2.1, hnn.2.2, hnd1, htm1, (fun q => by cases q), (fun _ => ⟨rfl, rfl⟩)⟩, by show 1 ≤ 1; omega, by show 1 ≤ 6; omega, (fun q => by cases q), by show bj ≤ 1000; omega, hbn⟩
      go_region_law
        ((refine step_append_lies _ (by rfl) _ _ _ (by rfl) (b + 1) 35 i0 _ 12 136 Tryd.underlying23 hI0 hz0 hz1 hz2 rfl (by omega) (.slice va ms.length vc) ms.length (flatM ms) (by rfl) ((hMz.alloc _).drew)
            ⟨y3.heap.size, 0, none⟩ 1 1 (mvC (⟨bn, ⟨nm, nd, tm, false, 0, 0, []⟩, bj, 1, t, pa, pn, pc⟩ : MV)).toList (by rfl) (by rfl) (World.news_of_block (cs := mvC (⟨bn, ⟨nm, nd, tm, false, 0, 0, []⟩, bj, 1, t, pa, pn, pc⟩ : MV)) (t := 35) (fr := (0, 0)) (heap_alloc_new y3 _)) (by simp [mvC, Value.oneCell'])
            (by omega) (by unfold maxLen; omega) (by omega) (by simp; omega) (y3.heap.size + 1) (by simp) ?_; intro g3 cap3 w33 hown3 hgrow3 hat3 hlt3; have m3 : Bk b (.slice va ms.length vc) bn bj w33 := (hgrow3.block b (by simp; omega) (Ne.symm hvb)).trans (whole_alloc E.bk _); have m3c := m3.c 0; have m3z := whole_frozen m3 0; simp at m3c))
      all_goals
        have md3 : Md h (⟨bn, ⟨nm, nd, tm, false, 0, 0, []⟩, bj, 1, t, pa, pn, pc⟩ : MV) w33 := (hgrow3.block h (by simp; omega) (Ne.symm hvh)).trans (whole_alloc md _)
        have hO3 : w33.ownsRow ob 9 1 (.slice (some ⟨og, 0, none⟩) on.length oc) on.length (on.map sV) := by
          refine (hOz.alloc (.cells (mvC (⟨bn, ⟨nm, nd, tm, false, 0, 0, []⟩, bj, 1, t, pa, pn, pc⟩ : MV)) 35)).drew.kept hgrow3 ?_
          right
          intro q
          rcases hMz.2 with ⟨q2, _⟩ | ⟨g', cap', cur', q2, _, q3, _⟩
          · rw [q2] at q; simp [Value.ownBlock] at q
          · exact row_ne hOz q3 (by decide) (by rw [q, q2]; rfl)
        have hF3 : FdA f w33 := ((E.fd.alloc (.cells (mvC (⟨bn, ⟨nm, nd, tm, false, 0, 0, []⟩, bj, 1, t, pa, pn, pc⟩ : MV)) 35))).block (hgrow3.block f (by simp; have := E.fd.lt; omega) (Ne.symm hvf))
        have m5 : Bk b (.slice (some ⟨g3, 0, none⟩) (ms.length + 1) cap3) bn bj (w33.setCell ⟨b, 0, none⟩ (.slice (some ⟨g3, 0, none⟩) (ms.length + 1) cap3)) := whole_set m3 0 _
        have r5 : (w33.setCell ⟨b, 0, none⟩ (.slice (some ⟨g3, 0, none⟩) (ms.length + 1) cap3)).ownsRow (b + 1) 35 12 (.slice (some ⟨g3, 0, none⟩) (ms.length + 1) cap3) (ms.length + 1) (flatM (ms ++ [(⟨bn, ⟨nm, nd, tm, false, 0, 0, []⟩, bj, 1, t, pa, pn, pc⟩ : MV)])) := by
          rw [flatM_snoc]; exact owns_set' hown3 0 _
        have md5 : Md h (⟨bn, ⟨nm, nd, tm, false, 0, 0, []⟩, bj, 1, t, pa, pn, pc⟩ : MV) (w33.setCell ⟨b, 0, none⟩ (.slice (some ⟨g3, 0, none⟩) (ms.length + 1) cap3)) := whole_set_ne md3 ⟨b, 0, none⟩ (by show b ≠ h; omega) _
        have hO5 := ownsRow_setCell_other (a := ⟨b, 0, none⟩) hO3 hob (.slice (some ⟨g3, 0, none⟩) (ms.length + 1) cap3)
        have hF5 : FdA f (w33.setCell ⟨b, 0, none⟩ (.slice (some ⟨g3, 0, none⟩) (ms.length + 1) cap3)) := hF3.block (Below.heap_setCell _ _ _ _ (by show f ≠ b; omega))
        have U5 : HUp b f (.slice va ms.length vc) w (w33.setCell ⟨b, 0, none⟩ (.slice (some ⟨g3, 0, none⟩) (ms.length + 1) cap3)) := by
          refine ⟨hgrow3.os.trans U.os, hgrow3.tape.trans U.tape, hgrow3.output.trans U.output, ?_, ?_⟩
          · have q1 := hgrow3.size; have q2 := U.size; simp [World.setCell] at q1 ⊢; omega
          · intro i hi hib hif hiv
            have hih : i < h := by rw [HH.out]; exact hi
            rw [Below.heap_setCell _ _ _ _ (by show i ≠ b; omega), hgrow3.block i (by simp; omega) (Ne.symm hiv)]
            exact (Below.heap_alloc _ _ _ (by omega)).trans (U.block i hih hif)
        clear hgrow3 hat3 hown3 m3 m3z m3c md3 hO3 hF3 fz
        generalize w33.setCell ⟨b, 0, none⟩ (.slice (some ⟨g3, 0, none⟩) (ms.length + 1) cap3) = w5 at *
        have d2 := m5.c 2; have dz := whole_frozen m5 2; have d9 := md5.c 9
        simp [mvC] at d2 d9
        go_wp2_with fail
        go_region
        all_goals
          go_wp2_with fail
          go_ret
          refine ⟨(⟨bn, ⟨nm, nd, tm, false, 0, 0, []⟩, bj, 1, t, pa, pn, pc⟩ : MV), _, ret_str (by rw [← wrL_bs _ HWT.out.1]; rfl), HGM.out, HNM.out.symm, rfl, Or.inr HWT.out, Bk.jobs m5 1 (by simp), owns_set' r5 2 _, ?_, ?_, ?_⟩
          · exact (hF5.block (Below.heap_setCell _ _ _ _ (by show f ≠ b; omega)))
          · exact ownsRow_setCell_other (a := ⟨b, 2, none⟩) hO5 hob _
          · exact (U5.jobs _).drew

end Go.Proofs.YtanknpmojblmcaaDoor
