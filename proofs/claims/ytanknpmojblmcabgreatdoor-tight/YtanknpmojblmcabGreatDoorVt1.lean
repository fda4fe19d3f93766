/-
  BkX WmJ WmK WmM WmN WmO WmP WmQ, put together.
-/
import Derived.Test.YtanknpmojblmcabGreatDoorGc1
import Derived.Test.YtanknpmojblmcabGreatDoorGd2
import Derived.Test.YtanknpmojblmcabGreatDoorGe3
import Derived.Test.YtanknpmojblmcabGreatDoorGa4
/-
  A world: the queue, room for a job.
-/
set_option linter.unusedSimpArgs false
set_option linter.unusedVariables false
namespace Go.Proofs.YtanknpmojblmcabGreatDoor

/-- How often a job stands among the first k of the queue. -/
def tmsQ (qs : List Nat) (id : Nat) : Nat → Nat
  | 0 => 0
  | k + 1 => tmsQ qs id k + (if qs.getD k 0 = id then 1 else 0)
def allQ (qs : List Nat) : Nat → Nat
  | 0 => 0
  | n + 1 => allQ qs n + tmsQ qs n qs.length
theorem tmsQ_no {qs : List Nat} {id : Nat} : ∀ k, k ≤ qs.length → (∀ j, j < k → qs.getD j 0 ≠ id) → tmsQ qs id k = 0 := by
  intro k
  induction k with
  | zero => intro _ _; rfl
  | succ k ih =>
    intro hk h
    unfold tmsQ
    rw [ih (by omega) (fun j hj => h j (by omega)), if_neg (h k (by omega))]
theorem tmsQ_mem {qs : List Nat} (hn : qs.Nodup) (id : Nat) : tmsQ qs id qs.length = if id ∈ qs then 1 else 0 := by
  have hp := List.pairwise_iff_getElem.mp hn
  have inj : ∀ i j, i < qs.length → j < qs.length → qs.getD i 0 = qs.getD j 0 → i = j := by
    intro i j hi hj he
    rw [show qs.getD i 0 = qs[i] from by simp [hi], show qs.getD j 0 = qs[j] from by simp [hj]] at he
    rcases Nat.lt_trichotomy i j with q | q | q
    · exact absurd he (hp i j hi hj q)
    · exact q
    · exact absurd he.symm (hp j i hj hi q)
  split
  · rename_i h
    obtain ⟨i, hi, rfl⟩ := List.getElem_of_mem h
    have hg : qs.getD i 0 = qs[i] := by simp [hi]
    have : ∀ k, k ≤ qs.length → tmsQ qs qs[i] k = if i < k then 1 else 0 := by
      intro k
      induction k with
      | zero => intro _; rfl
      | succ k ih =>
        intro hk
        unfold tmsQ
        rw [ih (by omega)]
        by_cases e : i = k
        · subst e; rw [if_neg (by omega), if_pos hg, if_pos (by omega)]
        · have : qs.getD k 0 ≠ qs[i] := fun q => e (inj i k hi (by omega) (by rw [hg]; exact q.symm))
          rw [if_neg this]
          by_cases q : i < k
          · rw [if_pos q, if_pos (by omega)]
          · rw [if_neg q, if_neg (by omega)]
    rw [this _ (Nat.le_refl _), if_pos hi]
  · rename_i h
    refine tmsQ_no _ (Nat.le_refl _) ?_
    intro j hj e
    apply h
    rw [← e]
    exact qs_mem hj
def sumK (qs : List Nat) (k : Nat) : Nat → Nat
  | 0 => 0
  | n + 1 => sumK qs k n + tmsQ qs n k
theorem sumK_succ (qs : List Nat) (k : Nat) : ∀ n, sumK qs (k + 1) n = sumK qs k n + (if qs.getD k 0 < n then 1 else 0) := by
  intro n
  induction n with
  | zero => rfl
  | succ n ih =>
    unfold sumK
    rw [ih]
    rw [show tmsQ qs n (k + 1) = tmsQ qs n k + (if qs.getD k 0 = n then 1 else 0) from rfl]
    by_cases e : qs.getD k 0 = n
    · rw [if_pos e, if_neg (by omega), if_pos (by omega)]; omega
    · rw [if_neg e]
      by_cases q : qs.getD k 0 < n
      · rw [if_pos q, if_pos (by omega)]; omega
      · rw [if_neg q, if_neg (by omega)]; omega
theorem allQ_sum (qs : List Nat) : ∀ n, allQ qs n = sumK qs qs.length n := by
  intro n
  induction n with
  | zero => rfl
  | succ n ih => unfold allQ sumK; rw [ih]
theorem allQ_len {qs : List Nat} {L : Nat} (h : ∀ i ∈ qs, i < L) : allQ qs L = qs.length := by
  rw [allQ_sum]
  have : ∀ k, k ≤ qs.length → sumK qs k L = k := by
    intro k
    induction k with
    | zero =>
      intro _
      have : ∀ n, sumK qs 0 n = 0 := by
        intro n
        induction n with
        | zero => rfl
        | succ n ih => unfold sumK; rw [ih]; rfl
      exact this L
    | succ k ih =>
      intro hk
      rw [sumK_succ, ih (by omega), if_pos (h _ (qs_mem (by omega)))]
  exact this _ (Nat.le_refl _)
/-- How many nodes others want, as load tells. -/
def othN (js : List PJ) (id : Nat) (m : Int) : Nat → Nat
  | 0 => 0
  | n + 1 => othN js id m n + (if n ≠ id ∧ wantsAt (js.getD n pj0) m = true then (js.getD n pj0).nd else 0)
theorem oth_want (js : List PJ) (id : Nat) (m : Int) : ∀ n, wantN js id m n = (js.getD id pj0).nd + othN js id m n := by
  intro n
  induction n with
  | zero => rfl
  | succ n ih => unfold wantN othN; rw [ih]; omega
theorem Stl.room {p : PS} (h : Stl p) {i : Nat} (hi : i < p.js.length) (hs : (p.js.getD i pj0).st = 1) : fitsF p.js p.nodes i (p.js.getD i pj0).sa = true := by
  rw [fits_iff]
  intro m h1 h2
  have h3 := load_tot p.js i m hi
  have h4 := (h.f.t i hi).s1 hs
  have h5 := h.f.c m (by omega)
  rw [wnA_of (by unfold hasS; rw [hs]; rfl) h1 (by unfold overJ; exact h2)] at h3
  omega
theorem Stl.soon {p : PS} (h : Stl p) {i : Nat} (hi : i < p.js.length) : (p.js.getD i pj0).sa ≤ p.now + 288 := by
  have := h.ok.n.sa _ (getD_in hi)
  have := h.ok.n.sum
  omega
end Go.Proofs.YtanknpmojblmcabGreatDoor

/-
  A world's walk: timely, within.
-/
set_option linter.unusedSimpArgs false
set_option linter.unusedVariables false
namespace Go.Proofs.YtanknpmojblmcabGreatDoor
open Go.RowKit

variable {D E : Nat → Prop} {bw sy kb : Nat} {x : WS} {gv jv qv bv : Value} {sl : Nat → Sl} {w w' : World}

set_option maxRecDepth 100000 in
set_option maxHeartbeats 4000000 in
theorem wTimely (nodes : Nat) (now : Int) (j : PJ) (w : World) (ht : Tmly nodes now j) (hl : j.st = 1 → now < j.sa) (h0 : 0 ≤ now) (h6 : j.st ≤ 6) (h12 : j.tm ≤ 12) (s1 : -1 ≤ j.sa) (s2 : j.sa ≤ 6000) :
    Calls Tryz.prog 42 #[.agg #[.int .i64 (j.st : Int), .int .i64 (j.nd : Int), .int .i64 (j.tm : Int), .int .i64 j.sa, .int .i64 j.en], .int .i64 now] w fun e w' => e = .returned (.bool true) ∧ Below w.heap.size w w' := by
  have Y := whole_new w (.cells #[.int .i64 (j.st : Int), .int .i64 (j.nd : Int), .int .i64 (j.tm : Int), .int .i64 j.sa, .int .i64 j.en] 35 (0, 0))
  have HB : Hid (Below w.heap.size w (w.alloc (.cells #[.int .i64 (j.st : Int), .int .i64 (j.nd : Int), .int .i64 (j.tm : Int), .int .i64 j.sa, .int .i64 j.en] 35))) := (Below.refl _ w).alloc (Nat.le_refl _) _
  obtain ⟨t1, t2, t30, t31, t32, t33, t34, t35, t36⟩ := ht
  unfold overJ at t32 t33 t34 t35
  obtain ⟨cd, st, nd, tm, sa, en⟩ := j
  dsimp only at *
  have htI : (tm : Int) ≤ 12 := by omega
  have ht0 : (0 : Int) ≤ (tm : Int) := by omega
  go_enter Tryz.func42, Tryz.ntmps42
  go_upto_region 1 with fail
  generalize w.alloc (.cells #[.int .i64 (st : Int), .int .i64 (nd : Int), .int .i64 (tm : Int), .int .i64 sa, .int .i64 en] 35) = y at *
  obtain ⟨sb, hsb⟩ : ∃ sb, sb = w.heap.size := ⟨_, rfl⟩
  rw [← hsb] at Y ⊢
  clear hsb
  have a0 := whole_cell Y 0; have a2 := whole_cell Y 2; have a3 := whole_cell Y 3; have a4 := whole_cell Y 4
  simp at a0 a2 a3 a4
  have hst : st = 0 ∨ st = 1 ∨ st = 2 ∨ st = 3 ∨ st = 4 ∨ st = 5 ∨ st = 6 := by omega
  rcases hst with rfl | rfl | rfl | rfl | rfl | rfl | rfl
  · obtain ⟨rfl, rfl⟩ := t30 rfl
    clear t30 t31 t32 t33 t34 t35 t36 hl
    go_wp2_with fail
    go_ret
    exact ⟨rfl, HB.out⟩
  · obtain ⟨q1, rfl⟩ := t31 rfl
    have q2 := hl rfl
    have q3 : 0 ≤ sa := by omega
    have q4 : ¬ sa ≤ -1 := by omega
    clear t30 t31 t32 t33 t34 t35 t36 hl
    go_wp2_with fail
    go_ret
    exact ⟨rfl, HB.out⟩
  · obtain ⟨q1, q2, q3, rfl⟩ := t32 rfl
    have q4 : ¬ sa ≤ -1 := by omega
    clear t30 t31 t32 t33 t34 t35 t36 hl
    go_wp2_with fail
    go_ret
    exact ⟨rfl, HB.out⟩
  · obtain ⟨q1, q2, q3, q4⟩ := t33 rfl
    have q5 : en ≤ sa + (tm : Int) := by omega
    clear t30 t31 t32 t33 t34 t35 t36 hl
    go_wp2_with fail
    go_ret
    exact ⟨rfl, HB.out⟩
  · obtain ⟨q1, q2, q3, q4⟩ := t34 rfl
    clear t30 t31 t32 t33 t34 t35 t36 hl
    go_wp2_with fail
    go_ret
    exact ⟨rfl, HB.out⟩
  · obtain ⟨q1, q2, q3⟩ := t35 rfl
    clear t30 t31 t32 t33 t34 t35 t36 hl
    rcases q3 with rfl | ⟨q3, q4, q5⟩
    · go_wp2_with fail
      go_ret
      exact ⟨rfl, HB.out⟩
    · have q6 : en ≤ sa + (tm : Int) := by omega
      have q7 : (sa == -1) = false := by rw [beq_eq_false_iff_ne]; omega
      go_wp2_with fail
      go_ret
      exact ⟨rfl, HB.out⟩
  · obtain ⟨rfl, q2, q3⟩ := t36 rfl
    clear t30 t31 t32 t33 t34 t35 t36 hl
    go_wp2_with fail
    go_ret
    exact ⟨rfl, HB.out⟩

theorem free_run (nodes : Nat) (js : List PJ) : ∀ n, freeN nodes js n = (nodes : Int) - ((runN js n : Nat) : Int) := by
  intro n
  induction n with
  | zero => simp [freeN, runN]
  | succ n ih =>
    unfold freeN runN
    rw [ih]
    split <;> simp <;> omega
theorem run_bd (js : List PJ) (h : ∀ k, (js.getD k pj0).nd ≤ 8) : ∀ n, runN js n ≤ 8 * n := by
  intro n
  induction n with
  | zero => simp [runN]
  | succ n ih =>
    unfold runN
    have := h n
    split <;> omega

set_option maxRecDepth 100000 in
set_option maxHeartbeats 4000000 in
theorem wWithin (h : WM D E bw sy kb x gv jv qv bv sl w) (hw : WOK x) (lv : Value) (hS : Sts lv x.p.js w) :
    Calls Tryz.prog 20 #[.pointer (some ⟨bw, 0, none⟩), lv] w fun e w' => e = .returned (.bool true) ∧ Below w.heap.size w w' := by
  obtain ⟨la, lc, rfl⟩ := hS.form
  have hst := hw.wi.st
  have hl24 := hst.ok.n.ln
  have hn0 := hst.f.n0
  have hn3 := hw.hi
  have hrun := run_le hst
  have hn8 := hw.n8
  have HN : Hid (NOK x.p) := hst.ok.n
  have HFR : Hid (freeF x.p.nodes x.p.js = (x.p.nodes : Int) - ((runN x.p.js x.p.js.length : Nat) : Int)) := free_run _ _ _
  have HTM : Hid (∀ k, k < x.p.js.length → Tmly x.p.nodes x.p.now (x.p.js.getD k pj0) ∧ ((x.p.js.getD k pj0).st = 1 → x.p.now < (x.p.js.getD k pj0).sa) ∧ (x.p.js.getD k pj0).st ≤ 6 ∧ (x.p.js.getD k pj0).tm ≤ 12 ∧ -1 ≤ (x.p.js.getD k pj0).sa ∧ (x.p.js.getD k pj0).sa ≤ 6000 ∧ (x.p.js.getD k pj0).nd ≤ 8) := by
    intro k hk
    have j := hst.ok.n.js _ (getD_in hk)
    have s := hst.soon hk
    exact ⟨hst.f.t k hk, hst.l k hk, j.st, j.tm, j.lo, by omega, j.nd⟩
  have HRB : Hid (∀ n, runN x.p.js n ≤ 8 * n) := by
    refine run_bd _ ?_
    intro k
    by_cases hk : k < x.p.js.length
    · exact (HTM.out k hk).2.2.2.2.2.2
    · rw [show x.p.js.getD k pj0 = pj0 from by simp [hk]]; simp [pj0]
  have HW : Hid (WM D E bw sy kb x gv jv qv bv sl w) := h
  have hbw := whole_lt h.wo
  have CELL : ∀ k, k < x.p.js.length → ∃ g, la = some ⟨g, 0, none⟩ ∧ x.p.js.length ≤ lc ∧ g < w.heap.size ∧ ∀ i, i < 5 → w.cell? ⟨g, k * 5 + i, none⟩ = (stC (x.p.js.getD k pj0))[i]? := by
    intro k hk
    rcases hS with ⟨_, hn⟩ | ⟨g, cap, hv, hc, hg, hcell⟩
    · rw [hn] at hk; simp at hk
    · injection hv with e1 e2 e3
      subst e3
      exact ⟨g, e1, hc, hg, fun i hi => hcell k hk i hi⟩
  have HCELL : Hid _ := CELL
  clear CELL h hw hst hS
  obtain ⟨N, hN⟩ : ∃ N, N = x.p.js.length := ⟨_, rfl⟩
  rw [← hN] at hl24 hrun ⊢
  have HNN : Hid (N = x.p.js.length) := hN
  clear hN
  go_enter Tryz.func20, Tryz.ntmps20
  go_wp2_with fail
  go_loopg [5, 6] (N + 1) (fun r n z wr => ∃ (k : Nat), k ≤ N ∧ r = N - k + 1 ∧ z = .int .i64 (k : Int) ∧ n = .int .i64 ((runN x.p.js k : Nat) : Int) ∧ Below w.heap.size w wr)
  case atStart => exact ⟨0, Nat.zero_le _, rfl, rfl, rfl, Below.refl _ _⟩
  case round =>
    obtain ⟨k, hk, rfl, rfl, rfl, HB⟩ := hrel
    by_cases hlt : k < N
    · have hlt' : (k : Int) < (N : Int) := by omega
      have hlt2 : k < x.p.js.length := by rw [← HNN.out]; exact hlt
      obtain ⟨g, rfl, hc, hg, hcell⟩ := HCELL.out k hlt2
      rw [← HNN.out] at hc
      obtain ⟨u1, u2, u3, u4, u5, u6, u7⟩ := HTM.out k hlt2
      have hrb := HRB.out k
      have HR1 : Hid (runN x.p.js (k + 1) = runN x.p.js k + (if (x.p.js.getD k pj0).st = 2 then (x.p.js.getD k pj0).nd else 0)) := rfl
      have l0 := (HB.cell (p := ⟨g, k * 5 + 0, none⟩) hg).trans (hcell 0 (by omega)); have l1 := (HB.cell (p := ⟨g, k * 5 + 1, none⟩) hg).trans (hcell 1 (by omega)); have l2 := (HB.cell (p := ⟨g, k * 5 + 2, none⟩) hg).trans (hcell 2 (by omega)); have l3 := (HB.cell (p := ⟨g, k * 5 + 3, none⟩) hg).trans (hcell 3 (by omega)); have l4 := (HB.cell (p := ⟨g, k * 5 + 4, none⟩) hg).trans (hcell 4 (by omega))
      obtain ⟨j, hj⟩ : ∃ j, j = x.p.js.getD k pj0 := ⟨_, rfl⟩
      rw [← hj] at u1 u2 u3 u4 u5 u6 u7 HR1 l0 l1 l2 l3 l4
      simp [stC] at l0 l1 l2 l3 l4
      have HT1 : Hid (Tmly x.p.nodes x.p.now j) := u1
      have HT2 : Hid (j.st = 1 → x.p.now < j.sa) := u2
      have c2 := (HB.cell (p := ⟨bw, 2, none⟩) hbw).trans HW.out.c.2.2.1
      clear hcell hj hlt2 u1 u2
      obtain ⟨rk, hrk⟩ : ∃ rk, rk = runN x.p.js k := ⟨_, rfl⟩
      rw [← hrk] at hrb HR1 ⊢
      clear hrk
      have rkI : (rk : Int) ≤ 200 := by omega
      have ndI : (j.nd : Int) ≤ 8 := by omega
      go_upto_if 22 with fail
      go_cut [5] (fun s5 wx => s5 = .int .i64 ((runN x.p.js (k + 1) : Nat) : Int) ∧ wx = wr)
      case first =>
        by_cases hs2 : j.st = 2
        · have HX : Hid (runN x.p.js (k + 1) = rk + j.nd) := by show _ = _; rw [HR1.out, if_pos hs2]
          have hs2' : ((j.st : Int) == 2) = true := by rw [hs2]; rfl
          have hs2n : (j.st : Int) = 2 := by omega
          clear HR1
          go_wp2_with fail
          go_meet
          case rel => exact ⟨by rw [HX.out]; go_num, rfl⟩
        · have HX : Hid (runN x.p.js (k + 1) = rk) := by show _ = _; rw [HR1.out, if_neg hs2]; rfl
          have hs2' : ((j.st : Int) == 2) = false := by rw [beq_eq_false_iff_ne]; omega
          clear HR1
          go_wp2_with fail
          go_meet
          case rel => exact ⟨by rw [HX.out], rfl⟩
      case rest =>
        obtain ⟨rfl, rfl⟩ := hcut
        rename World => wr
        clear HR1
        go_upto_region 7 with fail
        go_cut [7] (fun s7 wx => s7 = .bool true ∧ Hid (Below wr.heap.size wr wx))
        case first =>
          go_region_with (go_at_call 42; refine (wTimely x.p.nodes x.p.now j _ HT1.out HT2.out hn0 u3 u4 u5 u6).mono ?_; rintro e y1 ⟨rfl, hY1⟩; have BB : Hid (Below wr.heap.size wr y1) := (Below.refl _ wr).drew.trans hY1)
          all_goals
            go_wp2_with fail
            go_meet
            case rel => exact ⟨rfl, BB⟩
        case rest =>
          obtain ⟨rfl, HB2⟩ := hcut
          rename World => y1
          have HB3 := HB.trans (HB2.out.mono HB.size)
          clear l0 l1 l2 l3 l4 c2 HB HB2
          go_wp2_with fail
          go_roundg (N - (k + 1) + 1)
          case measure => omega
          case rel => exact ⟨k + 1, by omega, rfl, by go_num, rfl, HB3⟩
    · have hlt' : ¬ (k : Int) < (N : Int) := by omega
      have hke : k = N := by omega
      subst hke
      have HW1 : Hid (WM D E bw sy kb x gv jv qv bv sl wr) := HW.out.below HB
      have c0 := HW1.out.c.1
      have HFR2 : Hid (freeF x.p.nodes x.p.js = (x.p.nodes : Int) - ((runN x.p.js k : Nat) : Int)) := by show _ = _; rw [HFR.out, HNN.out]
      go_wp2_with fail
      refine (syClock HW1.out.sm HN.out).mono ?_
      rintro e y1 ⟨he, hY1⟩
      rw [HFR2.out] at he
      have HB3 := HB.trans (hY1.mono HB.size)
      have HW2 : Hid (WM D E bw sy kb x gv jv qv bv sl y1) := HW1.out.below hY1
      have c1 := HW2.out.c.2.1
      obtain ⟨rk, hrk⟩ : ∃ rk, rk = runN x.p.js k := ⟨_, rfl⟩
      rw [← hrk] at he hrun ⊢
      clear hrk hY1 HFR HFR2 c0
      subst he
      have hrI : (rk : Int) ≤ (x.p.nodes : Int) := by omega
      have hnI : (x.p.nodes : Int) ≤ 8 := by omega
      generalize x.p.nodes = nn at *
      generalize x.p.now = tn at *
      go_wp2_with fail
      go_ret
      exact ⟨rfl, HB3⟩
end Go.Proofs.YtanknpmojblmcabGreatDoor

/-
  A world's walk: Within.
-/
set_option linter.unusedSimpArgs false
set_option linter.unusedVariables false
namespace Go.Proofs.YtanknpmojblmcabGreatDoor
open Go.RowKit

/-- Where the moves lie. -/
theorem IsMvs.at_ {w : World} {a : Option Addr} {len cap : Nat} (h : IsMvs w a len cap) {k : Nat} (hk : k < len) : ∃ (b off : Nat) (m : Mv), a = some ⟨b, off, none⟩ ∧ len ≤ cap ∧ cap ≤ maxLen ∧ b < w.heap.size ∧ MvOK m ∧ w.cell? ⟨b, off + k * 4, none⟩ = some (.int .i64 m.kind) ∧ w.cell? ⟨b, off + k * 4 + 1, none⟩ = some (.int .i64 m.a) ∧ w.cell? ⟨b, off + k * 4 + 2, none⟩ = some (.int .i64 m.b) ∧ w.cell? ⟨b, off + k * 4 + 3, none⟩ = some (.string m.s) := by
  rcases h with ⟨_, rfl, _⟩ | ⟨x, rfl, hl, hm, hc⟩
  · omega
  · obtain ⟨m, m0, h1, h2, h3, h4⟩ := hc k hk
    obtain ⟨b, off, spot⟩ := x
    have hspot : spot = none := by
      have := World.cell?_spot h1
      unfold Addr.add at this
      split at this
      · exact this
      · rename_i hz
        obtain ⟨n0, _, g1, -⟩ := hc 0 (by omega)
        simpa [Addr.add] using World.cell?_spot g1
    subst hspot
    have e1 : (⟨b, off, none⟩ : Addr).add (k * 4) = ⟨b, off + k * 4, none⟩ := by unfold Addr.add; split <;> simp_all
    have e2 : ∀ j, 0 < j → (⟨b, off + k * 4, none⟩ : Addr).add j = ⟨b, off + k * 4 + j, none⟩ := by intro j hj; unfold Addr.add; split <;> simp_all
    rw [e1] at h1 h2 h3 h4
    rw [e2 _ (by omega)] at h2 h3 h4
    exact ⟨b, off, m, rfl, hl, hm, World.block_lt_of_cell? w _ h1, m0, h1, h2, h3, h4⟩
theorem IsMvs.cap_ {w : World} {a : Option Addr} {len cap : Nat} (h : IsMvs w a len cap) : len ≤ maxLen := by
  rcases h with ⟨_, rfl, _⟩ | ⟨x, rfl, hl, hm, hc⟩
  · exact Nat.zero_le _
  · omega
theorem Keep.low {n : Nat} {w w' : World} (h : Keep (fun j => n ≤ j) w w') : Below n w w' := ⟨h.os, h.tape, h.output, h.size, fun k hk => h.block k (by omega)⟩

set_option maxRecDepth 100000 in
set_option maxHeartbeats 8000000 in
theorem walk_within (c : Int) (hc1 : -9223372036854775808 ≤ c) (hc2 : c ≤ 9223372036854775807) (a : Option Addr) (len cap : Nat) (w : World) (hM : IsMvs w a len cap) :
    Calls Tryz.prog 9 #[.int .i64 c, .slice a len cap, .int .i64 2] w fun e w' => e = .returned (.bool true) ∧ Below w.heap.size w w' := by
  have hcap := hM.cap_
  unfold maxLen at hcap
  have HM : Hid (IsMvs w a len cap) := hM
  clear hM
  go_enter Tryz.func9, Tryz.ntmps9
  go_wp2_with fail
  refine (wBegin c hc1 hc2 w).mono ?_
  rintro e x1 ⟨bw, sy, kb, rfl, hW, hB⟩
  have hN : pikD c % 8 < 8 := Nat.mod_lt _ (by omega)
  have HW0 : Hid (WMe (fun j => w.heap.size ≤ j) bw sy ⟨newP (1 + pikD c % 8), [], 0⟩ x1) := ⟨_, _, _, _, _, _, _, hW⟩
  have HK0 : Hid (WOK ⟨newP (1 + pikD c % 8), [], 0⟩) := new_wok _ (by omega) (by omega)
  have HB0 : Hid (Below w.heap.size w x1) := hB
  clear hW hB hN
  go_wp2_with fail
  go_loopg [11] (len + 1) (fun r z wr => ∃ (k : Nat) (x : WS), k ≤ len ∧ r = len - k + 1 ∧ z = .int .i64 (k : Int) ∧ Hid (WOK x) ∧ Hid (WMe (fun j => w.heap.size ≤ j) bw sy x wr) ∧ Hid (Below w.heap.size w wr))
  case atStart => exact ⟨0, _, Nat.zero_le _, rfl, rfl, HK0, HW0, HB0⟩
  case round =>
    obtain ⟨k, x, hk, rfl, rfl, HK, HW, HB⟩ := hrel
    by_cases hlt : k < len
    · have hlt' : (k : Int) < (len : Int) := by omega
      obtain ⟨b, off, m, rfl, hl, hm, hbl, hmo, h1, h2, h3, h4⟩ := HM.out.at_ hlt
      replace h1 := (HB.out.cell (p := ⟨b, off + k * 4, none⟩) hbl).trans h1
      replace h2 := (HB.out.cell (p := ⟨b, off + k * 4 + 1, none⟩) hbl).trans h2
      replace h3 := (HB.out.cell (p := ⟨b, off + k * 4 + 2, none⟩) hbl).trans h3
      replace h4 := (HB.out.cell (p := ⟨b, off + k * 4 + 3, none⟩) hbl).trans h4
      have HMO : Hid (MvOK m) := hmo
      have HSTEP : Hid (WOK (stepW x m)) := (step_ok HK.out m).1
      obtain ⟨E, kb1, gv, jv, qv, bv, sl, hWx⟩ := HW.out
      have c3 := hWx.c.2.2.2
      have k1 := hWx.bm.bk.c 1
      simp at k1
      clear hWx hmo
      go_wp2_with fail
      refine (wMove HW.out HK.out m HMO.out).mono ?_
      rintro e y1 ⟨rfl, hWM, hKp⟩
      have HB1 : Hid (Below w.heap.size w y1) := HB.out.trans hKp.low
      have HW1 : Hid (WMe (fun j => w.heap.size ≤ j) bw sy (stepW x m) y1) := hWM
      clear hWM hKp h1 h2 h3 h4 c3 k1 HW HB
      obtain ⟨E2, kb2, gv2, jv2, qv2, bv2, sl2, hW2⟩ := HW1.out
      have HW2 : Hid (WM (fun j => w.heap.size ≤ j) E2 bw sy kb2 (stepW x m) gv2 jv2 qv2 bv2 sl2 y1) := hW2
      clear hW2
      go_wp2_with fail
      refine (wAll HW2.out HSTEP.out).mono ?_
      rintro e y2 ⟨lv, rfl, hrow, hY2⟩
      have HST : Hid (Sts lv (stepW x m).p.js y2) := Sts.of hrow
      have HW3 : Hid (WM (fun j => w.heap.size ≤ j) E2 bw sy kb2 (stepW x m) gv2 jv2 qv2 bv2 sl2 y2) := HW2.out.below hY2
      have HB2 : Hid (Below w.heap.size w y2) := HB1.out.trans (hY2.mono HB1.out.size)
      clear hrow hY2
      go_wp2_with fail
      refine (wWithin HW3.out HSTEP.out lv HST.out).mono ?_
      rintro e y3 ⟨rfl, hY3⟩
      have HW4 : Hid (WMe (fun j => w.heap.size ≤ j) bw sy (stepW x m) y3) := ⟨_, _, _, _, _, _, _, HW3.out.below hY3⟩
      have HB3 : Hid (Below w.heap.size w y3) := HB2.out.trans (hY3.mono HB2.out.size)
      clear hY3
      go_wp2_with fail
      go_roundg (len - (k + 1) + 1)
      case measure => omega
      case rel => exact ⟨k + 1, stepW x m, by omega, rfl, by go_num, HSTEP, HW4, HB3⟩
    · have hlt' : ¬ (k : Int) < (len : Int) := by omega
      go_wp2_with fail
      go_ret
      exact ⟨rfl, HB.out⟩

set_option maxRecDepth 100000 in
set_option maxHeartbeats 2000000 in
theorem Within_walk (c : Int) (hc1 : -9223372036854775808 ≤ c) (hc2 : c ≤ 9223372036854775807) (a : Option Addr) (len cap : Nat) (w : World) (hM : IsMvs w a len cap) :
    Calls Tryz.prog 3 #[.int .i64 c, .slice a len cap] w fun e w' => e = .returned (.bool true) ∧ Below w.heap.size w w' := by
  go_enter Tryz.func3, Tryz.ntmps3
  go_wp2_with fail
  refine (walk_within c hc1 hc2 a len cap w hM).mono ?_
  rintro e y ⟨rfl, hY⟩
  go_wp2_with fail
  go_ret
  exact ⟨rfl, hY⟩
end Go.Proofs.YtanknpmojblmcabGreatDoor

/-
  A world's walk: kept, prompt.
-/
set_option linter.unusedSimpArgs false
set_option linter.unusedVariables false
namespace Go.Proofs.YtanknpmojblmcabGreatDoor
open Go.RowKit

variable {D E : Nat → Prop} {bw sy kb : Nat} {x : WS} {gv jv qv bv : Value} {sl : Nat → Sl} {w w' : World}

set_option maxRecDepth 100000 in
set_option maxHeartbeats 4000000 in
theorem wKept (now : Int) (j k : PJ) (w : World) (h : KeptJ now j k) (h6 : j.st ≤ 6) :
    Calls Tryz.prog 43 #[.agg #[.int .i64 (j.st : Int), .int .i64 (j.nd : Int), .int .i64 (j.tm : Int), .int .i64 j.sa, .int .i64 j.en], .agg #[.int .i64 (k.st : Int), .int .i64 (k.nd : Int), .int .i64 (k.tm : Int), .int .i64 k.sa, .int .i64 k.en], .int .i64 now] w fun e w' => e = .returned (.bool true) ∧ Below w.heap.size w w' := by
  have Y := whole_alloc (whole_new w (.cells #[.int .i64 (j.st : Int), .int .i64 (j.nd : Int), .int .i64 (j.tm : Int), .int .i64 j.sa, .int .i64 j.en] 35 (0, 0))) (.cells #[.int .i64 (k.st : Int), .int .i64 (k.nd : Int), .int .i64 (k.tm : Int), .int .i64 k.sa, .int .i64 k.en] 35)
  have Z := whole_new (w.alloc (.cells #[.int .i64 (j.st : Int), .int .i64 (j.nd : Int), .int .i64 (j.tm : Int), .int .i64 j.sa, .int .i64 j.en] 35)) (.cells #[.int .i64 (k.st : Int), .int .i64 (k.nd : Int), .int .i64 (k.tm : Int), .int .i64 k.sa, .int .i64 k.en] 35 (0, 0))
  rw [World.size_alloc] at Z
  have HB : Hid (Below w.heap.size w ((w.alloc (.cells #[.int .i64 (j.st : Int), .int .i64 (j.nd : Int), .int .i64 (j.tm : Int), .int .i64 j.sa, .int .i64 j.en] 35)).alloc (.cells #[.int .i64 (k.st : Int), .int .i64 (k.nd : Int), .int .i64 (k.tm : Int), .int .i64 k.sa, .int .i64 k.en] 35))) := ((Below.refl _ w).alloc (Nat.le_refl _) _).alloc (by simp) _
  obtain ⟨t1, t2, t3⟩ := h
  obtain ⟨cd, st, nd, tm, sa, en⟩ := j
  obtain ⟨cd2, st2, nd2, tm2, sa2, en2⟩ := k
  dsimp only at *
  go_enter Tryz.func43, Tryz.ntmps43
  go_upto_region 1 with fail
  generalize (w.alloc (.cells #[.int .i64 (st : Int), .int .i64 (nd : Int), .int .i64 (tm : Int), .int .i64 sa, .int .i64 en] 35)).alloc (.cells #[.int .i64 (st2 : Int), .int .i64 (nd2 : Int), .int .i64 (tm2 : Int), .int .i64 sa2, .int .i64 en2] 35) = y at *
  obtain ⟨sb, hsb⟩ : ∃ sb, sb = w.heap.size := ⟨_, rfl⟩
  rw [← hsb] at Y Z ⊢
  clear hsb
  have a0 := whole_cell Y 0; have a3 := whole_cell Y 3; have a4 := whole_cell Y 4
  have b0 := whole_cell Z 0; have b3 := whole_cell Z 3; have b4 := whole_cell Z 4
  simp at a0 a3 a4 b0 b3 b4
  by_cases h3 : 3 ≤ st
  · obtain ⟨rfl, rfl, rfl⟩ := t1 h3
    have h3' : (3 : Int) ≤ (st2 : Int) := by omega
    clear t1 t2 t3
    go_wp2_with fail
    go_ret
    exact ⟨rfl, HB.out⟩
  have h3' : ¬ (3 : Int) ≤ (st : Int) := by omega
  have hst : st = 0 ∨ st = 1 ∨ st = 2 := by omega
  clear t1
  rcases hst with rfl | rfl | rfl
  · clear t2 t3
    go_wp2_with fail
    go_ret
    exact ⟨rfl, HB.out⟩
  · have q := t3 rfl
    clear t2 t3
    rcases q with ⟨rfl, rfl⟩ | ⟨q1, q2, q3, q4, q5⟩
    · go_wp2_with fail
      go_ret
      exact ⟨rfl, HB.out⟩
    · have hs2 : st2 = 1 ∨ st2 = 2 ∨ st2 = 3 ∨ st2 = 4 := by omega
      rcases hs2 with rfl | rfl | rfl | rfl
      · have q6 := q5 rfl
        have q7 : ¬ sa ≤ now := by omega
        clear q5
        go_wp2_with fail
        go_ret
        exact ⟨rfl, HB.out⟩
      all_goals
        clear q5
        by_cases q8 : sa ≤ now
        · go_wp2_with fail
          go_ret
          exact ⟨rfl, HB.out⟩
        · go_wp2_with fail
          go_ret
          exact ⟨rfl, HB.out⟩
  · obtain ⟨rfl, q1, q2⟩ := t2 rfl
    have q3 : (2 : Int) ≤ (st2 : Int) := by omega
    have q4 : ((st2 : Int) != 6) = true := by simp; omega
    have q5 : ¬ (st2 : Int) = 6 := by omega
    have q6 : ¬ st2 = 6 := by omega
    clear t2 t3
    go_wp2_with fail
    go_ret
    exact ⟨rfl, HB.out⟩

set_option maxRecDepth 100000 in
set_option maxHeartbeats 4000000 in
theorem wPrompt (h : WM D E bw sy kb x gv jv qv bv sl w) (js : List PJ) (la lv : Value) (hA : Sts la js w) (hS : Sts lv x.p.js w) (hl : js.length ≤ x.p.js.length) (h24 : x.p.js.length ≤ 24) (hk : ∀ i, i < js.length → KeptJ x.p.now (js.getD i pj0) (x.p.js.getD i pj0) ∧ (js.getD i pj0).st ≤ 6) :
    Calls Tryz.prog 21 #[.pointer (some ⟨bw, 0, none⟩), la, lv] w fun e w' => e = .returned (.bool true) ∧ Below w.heap.size w w' := by
  obtain ⟨aa, ac, rfl⟩ := hA.form
  obtain ⟨ba, bc, rfl⟩ := hS.form
  have CELL : ∀ (a : Option Addr) (c : Nat) (l : List PJ), Sts (.slice a l.length c) l w → ∀ k, k < l.length → ∃ g, a = some ⟨g, 0, none⟩ ∧ l.length ≤ c ∧ g < w.heap.size ∧ ∀ i, i < 5 → w.cell? ⟨g, k * 5 + i, none⟩ = (stC (l.getD k pj0))[i]? := by
    intro a c l hS k hk
    rcases hS with ⟨_, hn⟩ | ⟨g, cap, hv, hc, hg, hcell⟩
    · rw [hn] at hk; simp at hk
    · injection hv with e1 e2 e3
      subst e3
      exact ⟨g, e1, hc, hg, fun i hi => hcell k hk i hi⟩
  have HA : Hid _ := CELL aa ac js hA
  have HS : Hid _ := CELL ba bc x.p.js hS
  have HK : Hid (∀ i, i < js.length → KeptJ x.p.now (js.getD i pj0) (x.p.js.getD i pj0) ∧ (js.getD i pj0).st ≤ 6) := hk
  have HW : Hid (WM D E bw sy kb x gv jv qv bv sl w) := h
  have hbw := whole_lt h.wo
  clear CELL h hA hS hk
  obtain ⟨M, hM⟩ : ∃ M, M = x.p.js.length := ⟨_, rfl⟩
  rw [← hM] at hl h24 ⊢
  have HMM : Hid (M = x.p.js.length) := hM
  clear hM
  go_enter Tryz.func21, Tryz.ntmps21
  go_wp2_with fail
  go_loopg [7] (js.length + 1) (fun r z wr => ∃ (k : Nat), k ≤ js.length ∧ r = js.length - k + 1 ∧ z = .int .i64 (k : Int) ∧ Below w.heap.size w wr)
  case atStart => exact ⟨0, Nat.zero_le _, rfl, rfl, Below.refl _ _⟩
  case round =>
    obtain ⟨k, hk, rfl, rfl, HB⟩ := hrel
    by_cases hlt : k < js.length
    · have hlt' : (k : Int) < (js.length : Int) := by omega
      have hltM : (k : Int) < (M : Int) := by omega
      obtain ⟨g, rfl, hc, hg, hcell⟩ := HA.out k hlt
      obtain ⟨g2, rfl, hc2, hg2, hcell2⟩ := HS.out k (by rw [← HMM.out]; omega)
      rw [← HMM.out] at hc2
      obtain ⟨hkj, hk6⟩ := HK.out k hlt
      have l0 := (HB.cell (p := ⟨g, k * 5 + 0, none⟩) hg).trans (hcell 0 (by omega)); have l1 := (HB.cell (p := ⟨g, k * 5 + 1, none⟩) hg).trans (hcell 1 (by omega)); have l2 := (HB.cell (p := ⟨g, k * 5 + 2, none⟩) hg).trans (hcell 2 (by omega)); have l3 := (HB.cell (p := ⟨g, k * 5 + 3, none⟩) hg).trans (hcell 3 (by omega)); have l4 := (HB.cell (p := ⟨g, k * 5 + 4, none⟩) hg).trans (hcell 4 (by omega))
      have m0 := (HB.cell (p := ⟨g2, k * 5 + 0, none⟩) hg2).trans (hcell2 0 (by omega)); have m1 := (HB.cell (p := ⟨g2, k * 5 + 1, none⟩) hg2).trans (hcell2 1 (by omega)); have m2 := (HB.cell (p := ⟨g2, k * 5 + 2, none⟩) hg2).trans (hcell2 2 (by omega)); have m3 := (HB.cell (p := ⟨g2, k * 5 + 3, none⟩) hg2).trans (hcell2 3 (by omega)); have m4 := (HB.cell (p := ⟨g2, k * 5 + 4, none⟩) hg2).trans (hcell2 4 (by omega))
      obtain ⟨j, hj⟩ : ∃ j, j = js.getD k pj0 := ⟨_, rfl⟩
      obtain ⟨j2, hj2⟩ : ∃ j2, j2 = x.p.js.getD k pj0 := ⟨_, rfl⟩
      rw [← hj] at hkj hk6 l0 l1 l2 l3 l4
      rw [← hj2] at hkj m0 m1 m2 m3 m4
      simp [stC] at l0 l1 l2 l3 l4 m0 m1 m2 m3 m4
      have HKJ : Hid (KeptJ x.p.now j j2) := hkj
      have c2 := (HB.cell (p := ⟨bw, 2, none⟩) hbw).trans HW.out.c.2.2.1
      clear hcell hcell2 hj hj2 hkj
      go_upto_region 4 with fail
      go_cut [8] (fun s8 wx => s8 = .bool true ∧ Hid (Below wr.heap.size wr wx))
      case first =>
        go_region_with (go_at_call 43; refine (wKept x.p.now j j2 _ HKJ.out hk6).mono ?_; rintro e y1 ⟨rfl, hY1⟩; have BB : Hid (Below wr.heap.size wr y1) := (Below.refl _ wr).drew.trans hY1)
        all_goals
          go_wp2_with fail
          go_meet
          case rel => exact ⟨rfl, BB⟩
      case rest =>
        obtain ⟨rfl, HB2⟩ := hcut
        rename World => y1
        have HB3 := HB.trans (HB2.out.mono HB.size)
        clear l0 l1 l2 l3 l4 m0 m1 m2 m3 m4 c2 HB HB2
        go_wp2_with fail
        go_roundg (js.length - (k + 1) + 1)
        case measure => omega
        case rel => exact ⟨k + 1, by omega, rfl, by go_num, HB3⟩
    · have hlt' : ¬ (k : Int) < (js.length : Int) := by omega
      go_wp2_with fail
      go_ret
      exact ⟨rfl, HB⟩
end Go.Proofs.YtanknpmojblmcabGreatDoor

/-
  A world's walk: Prompt.
-/
set_option linter.unusedSimpArgs false
set_option linter.unusedVariables false
namespace Go.Proofs.YtanknpmojblmcabGreatDoor
open Go.RowKit

variable {D E : Nat → Prop} {bw sy kb : Nat} {x : WS} {gv jv qv bv : Value} {sl : Nat → Sl} {w w' : World}

/-- What was made meanwhile is not the world's. -/
theorem WM.narrowD (h : WM D E bw sy kb x gv jv qv bv sl w) (k : Below w.heap.size w w') : WM (fun j => (D j ∧ j < w.heap.size) ∨ w'.heap.size ≤ j) (fun j => (E j ∧ j < w.heap.size) ∨ w'.heap.size ≤ j) bw sy kb x gv jv qv bv sl w' := by
  have hs := k.size
  have b := h.bm.narrow k
  have hbw := whole_lt h.wo
  refine ⟨(k.block bw hbw).trans h.wo, h.sm.narrow k, ⟨b.bk, b.mr, b.pr, ⟨Or.inl ⟨h.bm.dk.1, h.bm.bk.lt⟩, b.dk.2⟩, fun g hg => ⟨Or.inl ⟨(h.bm.dv g hg).1, (h.bm.mr.lt g hg).2⟩, (b.dv g hg).2⟩, fun i hi g hg => ⟨Or.inl ⟨(h.bm.dp i hi g hg).1, ((h.bm.pr i hi).lt g hg).2⟩, (b.dp i hi g hg).2⟩, h.bm.nl⟩, ?_, Or.inl ⟨h.dw.1, hbw⟩, ?_⟩
  · intro j hj
    rcases hj with q | q
    · exact Or.inl ⟨h.ed j q.1, q.2⟩
    · exact Or.inr q
  · intro q
    rcases q with q | q
    · exact h.dw.2 q.1
    · omega
theorem Sts.keepD {v : Value} {js : List PJ} (h : Sts v js w) (hn : ∀ g, v.ownBlock = some g → ¬ D g) (k : Keep D w w') : Sts v js w' := by
  rcases h with h | ⟨g, cap, rfl, h2, h3, h4⟩
  · exact Or.inl h
  · have hg := hn g rfl
    exact Or.inr ⟨g, cap, rfl, h2, Nat.lt_of_lt_of_le h3 k.size, fun i hi j hj => (k.cell hg).trans (h4 i hi j hj)⟩
theorem Sts.below {v : Value} {js : List PJ} (h : Sts v js w) (k : Below w.heap.size w w') : Sts v js w' := by
  rcases h with h | ⟨g, cap, rfl, h2, h3, h4⟩
  · exact Or.inl h
  · exact Or.inr ⟨g, cap, rfl, h2, Nat.lt_of_lt_of_le h3 k.size, fun i hi j hj => (k.cell (p := ⟨g, i * 5 + j, none⟩) h3).trans (h4 i hi j hj)⟩
theorem Keep.lowD {n : Nat} (h : Keep D w w') (hd : ∀ k, D k → n ≤ k) : Below n w w' := ⟨h.os, h.tape, h.output, h.size, fun k hk => h.block k (fun q => by have := hd k q; omega)⟩

set_option maxRecDepth 100000 in
set_option maxHeartbeats 8000000 in
theorem walk_prompt (c : Int) (hc1 : -9223372036854775808 ≤ c) (hc2 : c ≤ 9223372036854775807) (a : Option Addr) (len cap : Nat) (w : World) (hM : IsMvs w a len cap) :
    Calls Tryz.prog 9 #[.int .i64 c, .slice a len cap, .int .i64 3] w fun e w' => e = .returned (.bool true) ∧ Below w.heap.size w w' := by
  have hcap := hM.cap_
  unfold maxLen at hcap
  have HM : Hid (IsMvs w a len cap) := hM
  clear hM
  go_enter Tryz.func9, Tryz.ntmps9
  go_wp2_with fail
  refine (wBegin c hc1 hc2 w).mono ?_
  rintro e x1 ⟨bw, sy, kb, rfl, hW, hB⟩
  have hN : pikD c % 8 < 8 := Nat.mod_lt _ (by omega)
  have HW0 : Hid (WMe (fun j => w.heap.size ≤ j) bw sy ⟨newP (1 + pikD c % 8), [], 0⟩ x1) := ⟨_, _, _, _, _, _, _, hW⟩
  have HK0 : Hid (WOK ⟨newP (1 + pikD c % 8), [], 0⟩) := new_wok _ (by omega) (by omega)
  have HB0 : Hid (Below w.heap.size w x1) := hB
  clear hW hB hN
  go_wp2_with fail
  go_loopg [9, 11] (len + 1) (fun r la z wr => ∃ (k : Nat) (x : WS) (D : Nat → Prop), k ≤ len ∧ r = len - k + 1 ∧ z = .int .i64 (k : Int) ∧ Hid (WOK x) ∧ Hid (∀ j, D j → w.heap.size ≤ j) ∧ Hid (WMe D bw sy x wr) ∧ Hid (Below w.heap.size w wr) ∧ Hid (Sts la x.p.js wr) ∧ Hid (∀ g, la.ownBlock = some g → ¬ D g))
  case atStart => exact ⟨0, _, _, Nat.zero_le _, rfl, rfl, HK0, fun _ h => h, HW0, HB0, Or.inl ⟨rfl, rfl⟩, by intro g hg; simp [Value.ownBlock] at hg⟩
  case round =>
    obtain ⟨k, x, D, hk, rfl, rfl, HK, HD, HW, HB, HLA, HLD⟩ := hrel
    by_cases hlt : k < len
    · have hlt' : (k : Int) < (len : Int) := by omega
      obtain ⟨b, off, m, rfl, hl, hm, hbl, hmo, h1, h2, h3, h4⟩ := HM.out.at_ hlt
      replace h1 := (HB.out.cell (p := ⟨b, off + k * 4, none⟩) hbl).trans h1
      replace h2 := (HB.out.cell (p := ⟨b, off + k * 4 + 1, none⟩) hbl).trans h2
      replace h3 := (HB.out.cell (p := ⟨b, off + k * 4 + 2, none⟩) hbl).trans h3
      replace h4 := (HB.out.cell (p := ⟨b, off + k * 4 + 3, none⟩) hbl).trans h4
      have HMO : Hid (MvOK m) := hmo
      obtain ⟨st1, st2, st3, st4⟩ := step_ok HK.out m
      have HSTEP : Hid (WOK (stepW x m)) := st1
      have HKEPT : Hid (x.p.js.length ≤ (stepW x m).p.js.length ∧ ∀ i, i < x.p.js.length → KeptJ (stepW x m).p.now (x.p.js.getD i pj0) ((stepW x m).p.js.getD i pj0) ∧ (x.p.js.getD i pj0).st ≤ 6) := ⟨st3, fun i hi => ⟨st4 i hi, (HK.out.wi.st.ok.n.js _ (getD_in hi)).st⟩⟩
      clear st1 st2 st3 st4
      obtain ⟨E, kb1, gv, jv, qv, bv, sl, hWx⟩ := HW.out
      have c3 := hWx.c.2.2.2
      have k1 := hWx.bm.bk.c 1
      simp at k1
      clear hWx hmo
      go_wp2_with fail
      refine (wMove HW.out HK.out m HMO.out).mono ?_
      rintro e y1 ⟨rfl, hWM, hKp⟩
      have HB1 : Hid (Below w.heap.size w y1) := HB.out.trans (hKp.lowD HD.out)
      have HW1 : Hid (WMe D bw sy (stepW x m) y1) := hWM
      have HLA1 : Hid (Sts _ x.p.js y1) := HLA.out.keepD HLD.out hKp
      clear hWM hKp h1 h2 h3 h4 c3 k1 HW HB HLA
      obtain ⟨E2, kb2, gv2, jv2, qv2, bv2, sl2, hW2⟩ := HW1.out
      have HW2 : Hid (WM D E2 bw sy kb2 (stepW x m) gv2 jv2 qv2 bv2 sl2 y1) := hW2
      clear hW2
      go_wp2_with fail
      refine (wAll HW2.out HSTEP.out).mono ?_
      rintro e y2 ⟨lv, rfl, hrow, hY2⟩
      have HST : Hid (Sts lv (stepW x m).p.js y2) := Sts.of hrow
      have HW3 : Hid (WM (fun j => (D j ∧ j < y1.heap.size) ∨ y2.heap.size ≤ j) (fun j => (E2 j ∧ j < y1.heap.size) ∨ y2.heap.size ≤ j) bw sy kb2 (stepW x m) gv2 jv2 qv2 bv2 sl2 y2) := HW2.out.narrowD hY2
      have HB2 : Hid (Below w.heap.size w y2) := HB1.out.trans (hY2.mono HB1.out.size)
      have HLA2 : Hid (Sts _ x.p.js y2) := HLA1.out.below hY2
      have hs1 := HB1.out.size
      have HD2 : Hid (∀ j, ((D j ∧ j < y1.heap.size) ∨ y2.heap.size ≤ j) → w.heap.size ≤ j) := by
        intro j hj
        have := HB2.out.size
        rcases hj with q | q
        · exact HD.out j q.1
        · omega
      have HLD2 : Hid (∀ g, lv.ownBlock = some g → ¬ ((D g ∧ g < y1.heap.size) ∨ y2.heap.size ≤ g)) := by
        intro g hg q
        have := hrow.lt g hg
        rcases q with q | q
        · have := q.2; omega
        · omega
      clear hrow hY2 HLA1 hs1
      go_wp2_with fail
      refine (wPrompt HW3.out x.p.js _ lv HLA2.out HST.out HKEPT.out.1 HSTEP.out.wi.st.ok.n.ln HKEPT.out.2).mono ?_
      rintro e y3 ⟨rfl, hY3⟩
      have HW4 : Hid (WMe (fun j => (D j ∧ j < y1.heap.size) ∨ y2.heap.size ≤ j) bw sy (stepW x m) y3) := ⟨_, _, _, _, _, _, _, HW3.out.below hY3⟩
      have HB3 : Hid (Below w.heap.size w y3) := HB2.out.trans (hY3.mono HB2.out.size)
      have HST3 : Hid (Sts lv (stepW x m).p.js y3) := HST.out.below hY3
      clear hY3
      go_wp2_with fail
      go_roundg (len - (k + 1) + 1)
      case measure => omega
      case rel => exact ⟨k + 1, stepW x m, _, by omega, rfl, by go_num, HSTEP, HD2, HW4, HB3, HST3, HLD2⟩
    · have hlt' : ¬ (k : Int) < (len : Int) := by omega
      go_wp2_with fail
      go_ret
      exact ⟨rfl, HB.out⟩

set_option maxRecDepth 100000 in
set_option maxHeartbeats 2000000 in
theorem Prompt_walk (c : Int) (hc1 : -9223372036854775808 ≤ c) (hc2 : c ≤ 9223372036854775807) (a : Option Addr) (len cap : Nat) (w : World) (hM : IsMvs w a len cap) :
    Calls Tryz.prog 4 #[.int .i64 c, .slice a len cap] w fun e w' => e = .returned (.bool true) ∧ Below w.heap.size w w' := by
  go_enter Tryz.func4, Tryz.ntmps4
  go_wp2_with fail
  refine (walk_prompt c hc1 hc2 a len cap w hM).mono ?_
  rintro e y ⟨rfl, hY⟩
  go_wp2_with fail
  go_ret
  exact ⟨rfl, hY⟩
end Go.Proofs.YtanknpmojblmcabGreatDoor

/-
  A world's walk: load, room.
-/
set_option linter.unusedSimpArgs false
set_option linter.unusedVariables false
namespace Go.Proofs.YtanknpmojblmcabGreatDoor
open Go.RowKit

variable {D E : Nat → Prop} {bw sy kb : Nat} {x : WS} {gv jv qv bv : Value} {sl : Nat → Sl} {w w' : World}

theorem Sts.cells {a : Option Addr} {c : Nat} {l : List PJ} (hS : Sts (.slice a l.length c) l w) : ∀ k, k < l.length → ∃ g, a = some ⟨g, 0, none⟩ ∧ l.length ≤ c ∧ g < w.heap.size ∧ ∀ i, i < 5 → w.cell? ⟨g, k * 5 + i, none⟩ = (stC (l.getD k pj0))[i]? := by
  intro k hk
  rcases hS with ⟨_, hn⟩ | ⟨g, cap, hv, hc, hg, hcell⟩
  · rw [hn] at hk; simp at hk
  · injection hv with e1 e2 e3
    subst e3
    exact ⟨g, e1, hc, hg, fun i hi => hcell k hk i hi⟩
theorem othN_le (js : List PJ) (id : Nat) (m : Int) (h : ∀ k, (js.getD k pj0).nd ≤ 8) : ∀ n, othN js id m n ≤ 8 * n := by
  intro n
  induction n with
  | zero => simp [othN]
  | succ n ih =>
    unfold othN
    have := h n
    split <;> omega
/-- Jobs whose numbers are small. -/
def SmlJ (js : List PJ) : Prop := ∀ k, (js.getD k pj0).nd ≤ 8 ∧ (js.getD k pj0).tm ≤ 12 ∧ -1 ≤ (js.getD k pj0).sa ∧ (js.getD k pj0).sa ≤ 6000

set_option maxRecDepth 100000 in
set_option maxHeartbeats 4000000 in
theorem wLoad (lv : Value) (js : List PJ) (id : Nat) (m : Int) (w : World) (hS : Sts lv js w) (hl : js.length ≤ 24) (hj : SmlJ js) :
    Calls Tryz.prog 63 #[lv, .int .i64 (id : Int), .int .i64 m] w fun e w' => e = .returned (.int .i64 ((othN js id m js.length : Nat) : Int)) ∧ Below w.heap.size w w' := by
  obtain ⟨la, lc, rfl⟩ := hS.form
  have HC : Hid _ := hS.cells
  have HO : Hid _ := othN_le js id m (fun k => (hj k).1)
  have HJ : Hid (SmlJ js) := hj
  clear hS hj
  go_enter Tryz.func63, Tryz.ntmps63
  go_wp2_with fail
  go_loopg [7, 8] (js.length + 1) (fun r n z wr => ∃ (k : Nat), k ≤ js.length ∧ r = js.length - k + 1 ∧ z = .int .i64 (k : Int) ∧ n = .int .i64 ((othN js id m k : Nat) : Int) ∧ Below w.heap.size w wr)
  case atStart => exact ⟨0, Nat.zero_le _, rfl, rfl, rfl, Below.refl _ _⟩
  case round =>
    obtain ⟨k, hk, rfl, rfl, rfl, HB⟩ := hrel
    by_cases hlt : k < js.length
    · have hlt' : (k : Int) < (js.length : Int) := by omega
      obtain ⟨g, rfl, hc, hg, hcell⟩ := HC.out k hlt
      obtain ⟨j1, j2, j3, j4⟩ := HJ.out k
      have hob := HO.out k
      have l0 := (HB.cell (p := ⟨g, k * 5 + 0, none⟩) hg).trans (hcell 0 (by omega)); have l1 := (HB.cell (p := ⟨g, k * 5 + 1, none⟩) hg).trans (hcell 1 (by omega)); have l2 := (HB.cell (p := ⟨g, k * 5 + 2, none⟩) hg).trans (hcell 2 (by omega)); have l3 := (HB.cell (p := ⟨g, k * 5 + 3, none⟩) hg).trans (hcell 3 (by omega))
      have HN1 : Hid (othN js id m (k + 1) = othN js id m k + (if k ≠ id ∧ wantsAt (js.getD k pj0) m = true then (js.getD k pj0).nd else 0)) := rfl
      obtain ⟨j, hj⟩ : ∃ j, j = js.getD k pj0 := ⟨_, rfl⟩
      rw [← hj] at l0 l1 l2 l3 j1 j2 j3 j4 HN1
      simp [stC] at l0 l1 l2 l3
      clear hcell hj
      obtain ⟨ok, hok⟩ : ∃ ok, ok = othN js id m k := ⟨_, rfl⟩
      rw [← hok] at hob HN1 ⊢
      clear hok
      have okI : (ok : Int) ≤ 200 := by omega
      have ndI : (j.nd : Int) ≤ 8 := by omega
      have tmI : (j.tm : Int) ≤ 12 := by omega
      obtain ⟨hs, hhs⟩ : ∃ hs, hs = hasS j := ⟨_, rfl⟩
      have HHS : Hid (hs = hasS j) := hhs
      have HWA : Hid (wantsAt j m = (hs && (decide (j.sa ≤ m) && decide (m < j.sa + (j.tm : Int))))) := by show _ = _; unfold wantsAt overJ; rw [hhs]
      clear hhs
      obtain ⟨wa, hwa⟩ : ∃ wa, wa = wantsAt j m := ⟨_, rfl⟩
      rw [← hwa] at HN1 HWA
      clear hwa
      go_upto_region 5 with fail
      go_cut [9] (fun s9 wx => s9 = .bool hs ∧ wx = wr)
      case first =>
        by_cases s1 : j.st = 1
        · have e : hs = true := by rw [HHS.out]; unfold hasS; rw [s1]; rfl
          have s1' : ((j.st : Int) == 1) = true := by rw [s1]; rfl
          have s1n : (j.st : Int) = 1 := by omega
          clear HHS HWA
          subst e
          go_wp2_with fail
          go_meet
          case rel => exact ⟨rfl, rfl⟩
        · have s1' : ((j.st : Int) == 1) = false := by rw [beq_eq_false_iff_ne]; omega
          by_cases s2 : j.st = 2
          · have e : hs = true := by rw [HHS.out]; unfold hasS; rw [s2]; rfl
            have s2' : ((j.st : Int) == 2) = true := by rw [s2]; rfl
            have s2n : (j.st : Int) = 2 := by omega
            clear HHS HWA
            subst e
            go_wp2_with fail
            go_meet
            case rel => exact ⟨rfl, rfl⟩
          · have s2' : ((j.st : Int) == 2) = false := by rw [beq_eq_false_iff_ne]; omega
            have e : hs = false := by rw [HHS.out]; unfold hasS; rw [s1', s2']; rfl
            clear HHS HWA
            subst e
            go_wp2_with fail
            go_meet
            case rel => exact ⟨rfl, rfl⟩
      case rest =>
        obtain ⟨rfl, rfl⟩ := hcut
        rename World => wr
        clear HHS
        go_upto_region 6 with fail
        go_cut [59] (fun s59 wx => s59 = .bool (decide (k ≠ id) && wa) ∧ ∃ n, wx = wr.drewN n)
        case first =>
          by_cases e1 : k = id
          · have e1' : ((k : Int) != (id : Int)) = false := by simp; omega
            have e1i : (k : Int) = (id : Int) := by omega
            have E1 : Hid (decide (k ≠ id) = false) := by show _ = _; simp [e1]
            go_quiet (fail)
            go_wp2_with fail
            go_meet
            case rel => exact ⟨by rw [E1.out]; rfl, _, rfl⟩
          · have e1' : ((k : Int) != (id : Int)) = true := by simp; omega
            have e1i : ¬ (k : Int) = (id : Int) := by omega
            have E1 : Hid (decide (k ≠ id) = true) := by show _ = _; simp [e1]
            cases hs with
            | false =>
              have E2 : Hid (wa = false) := HWA.out
              clear HWA
              go_quiet (fail)
              go_wp2_with fail
              go_meet
              case rel => exact ⟨by rw [E1.out, E2.out]; rfl, _, rfl⟩
            | true =>
              by_cases e2 : j.sa ≤ m
              · by_cases e3 : m < j.sa + (j.tm : Int)
                · have E2 : Hid (wa = true) := by show _ = _; rw [HWA.out]; simp [e2, e3]
                  clear HWA
                  go_quiet (fail)
                  go_wp2_with fail
                  go_meet
                  case rel => exact ⟨by rw [E1.out, E2.out]; rfl, _, rfl⟩
                · have E2 : Hid (wa = false) := by show _ = _; rw [HWA.out]; simp [e3]
                  clear HWA
                  go_quiet (fail)
                  go_wp2_with fail
                  go_meet
                  case rel => exact ⟨by rw [E1.out, E2.out]; rfl, _, rfl⟩
              · have E2 : Hid (wa = false) := by show _ = _; rw [HWA.out]; simp [e2]
                clear HWA
                go_quiet (fail)
                go_wp2_with fail
                go_meet
                case rel => exact ⟨by rw [E1.out, E2.out]; rfl, _, rfl⟩
        case rest =>
          obtain ⟨rfl, n, rfl⟩ := hcut
          have HB2 := below_drewN HB n
          replace l1 : (wr.drewN n).cell? ⟨g, k * 5 + 1, none⟩ = _ := l1
          clear l0 l2 l3 HWA
          generalize wr.drewN n = wz at *
          obtain ⟨t, ht⟩ : ∃ t, t = (decide (k ≠ id) && wa) := ⟨_, rfl⟩
          have HX : Hid (othN js id m (k + 1) = ok + if t = true then j.nd else 0) := by
            show _ = _
            rw [HN1.out, ht]
            by_cases e : k ≠ id ∧ wa = true
            · rw [if_pos e, if_pos (by simp [e.1, e.2])]
            · rw [if_neg e, if_neg (by simpa using e)]
          rw [← ht]
          clear ht HN1
          cases t with
          | true =>
            go_wp2_with fail
            go_roundg (js.length - (k + 1) + 1)
            case measure => omega
            case rel => exact ⟨k + 1, by omega, rfl, by go_num, by rw [HX.out]; go_num, HB2⟩
          | false =>
            go_wp2_with fail
            go_roundg (js.length - (k + 1) + 1)
            case measure => omega
            case rel => exact ⟨k + 1, by omega, rfl, by go_num, by rw [HX.out]; rfl, HB2⟩
    · have hlt' : ¬ (k : Int) < (js.length : Int) := by omega
      have hke : k = js.length := by omega
      subst hke
      go_wp2_with fail
      go_ret
      exact ⟨rfl, HB⟩

/-- room is fits. -/
theorem room_fits (js : List PJ) (nodes id : Nat) (t : Int) (n : Nat) : fitsN js nodes id t n = true ↔ ∀ k : Nat, k < n → othN js id (t + (k : Int)) js.length + (js.getD id pj0).nd ≤ nodes := by
  rw [fitsN_iff]
  constructor
  · intro h k hk
    have := h k hk
    unfold loadF at this
    rw [oth_want] at this
    omega
  · intro h k hk
    have := h k hk
    unfold loadF
    rw [oth_want]
    omega

set_option maxRecDepth 100000 in
set_option maxHeartbeats 4000000 in
theorem wRoom (h : WM D E bw sy kb x gv jv qv bv sl w) (lv : Value) (hS : Sts lv x.p.js w) (hl : x.p.js.length ≤ 24) (hj : SmlJ x.p.js) (id : Nat) (hid : id < x.p.js.length) (t : Int) (t0 : 0 ≤ t) (t1 : t ≤ 7000) (hn : x.p.nodes ≤ 8) :
    Calls Tryz.prog 44 #[.pointer (some ⟨bw, 0, none⟩), lv, .int .i64 (id : Int), .int .i64 t] w fun e w' => e = .returned (.bool (fitsF x.p.js x.p.nodes id t)) ∧ Below w.heap.size w w' := by
  obtain ⟨la, lc, rfl⟩ := hS.form
  obtain ⟨g, rfl, hc, hg, hcell⟩ := hS.cells id hid
  obtain ⟨j1, j2, j3, j4⟩ := hj id
  have HO : Hid (∀ m n, othN x.p.js id m n ≤ 8 * n) := fun m => othN_le x.p.js id m (fun k => (hj k).1)
  have HJ : Hid (SmlJ x.p.js) := hj
  have HS : Hid (Sts (.slice (some ⟨g, 0, none⟩) x.p.js.length lc) x.p.js w) := hS
  have HW : Hid (WM D E bw sy kb x gv jv qv bv sl w) := h
  have hbw := whole_lt h.wo
  have L1 := hcell 1 (by omega); have L2 := hcell 2 (by omega)
  obtain ⟨j, hjj⟩ : ∃ j, j = x.p.js.getD id pj0 := ⟨_, rfl⟩
  rw [← hjj] at L1 L2 j1 j2 j3 j4
  have HF : Hid (fitsF x.p.js x.p.nodes id t = fitsN x.p.js x.p.nodes id t j.tm) := by show _ = _; unfold fitsF; rw [hjj]
  have HRF : Hid (∀ n, fitsN x.p.js x.p.nodes id t n = true ↔ ∀ k : Nat, k < n → othN x.p.js id (t + (k : Int)) x.p.js.length + j.nd ≤ x.p.nodes) := by intro n; rw [hjj]; exact room_fits _ _ _ _ _
  simp [stC] at L1 L2
  clear h hS hj hcell hjj
  obtain ⟨N, hN⟩ : ∃ N, N = x.p.js.length := ⟨_, rfl⟩
  rw [← hN] at hl hid hc HS ⊢
  have HNN : Hid (N = x.p.js.length) := hN
  clear hN
  have hidI : (id : Int) < (N : Int) := by omega
  have tmI : (j.tm : Int) ≤ 12 := by omega
  have ndI : (j.nd : Int) ≤ 8 := by omega
  go_enter Tryz.func44, Tryz.ntmps44
  go_wp2_with fail
  go_loopg [9] (j.tm + 1) (fun r z wr => ∃ (k : Nat) (z0 : Int), k ≤ j.tm ∧ r = j.tm - k + 1 ∧ z = .int .i64 z0 ∧ Hid (z0 = t + (k : Int)) ∧ z0 ≤ 8000 ∧ Hid (fitsN x.p.js x.p.nodes id t k = true) ∧ Below w.heap.size w wr)
  case atStart => exact ⟨0, t, Nat.zero_le _, rfl, rfl, by show _ = _; simp, by omega, rfl, Below.refl _ _⟩
  case round =>
    obtain ⟨k, z0, hk, rfl, rfl, HZ, hz8, HFN, HB⟩ := hrel
    have z00 : 0 ≤ z0 := by have := HZ.out; omega
    have l1 := (HB.cell (p := ⟨g, id * 5 + 1, none⟩) hg).trans L1
    have l2 := (HB.cell (p := ⟨g, id * 5 + 2, none⟩) hg).trans L2
    by_cases hlt : k < j.tm
    · have hlt' : z0 < t + (j.tm : Int) := by have := HZ.out; omega
      have HW1 : Hid (WM D E bw sy kb x gv jv qv bv sl wr) := HW.out.below HB
      have HS1 : Hid (Sts (.slice (some ⟨g, 0, none⟩) N lc) x.p.js wr) := by
        rcases HS.out with q | ⟨g', cap, q1, q2, q3, q4⟩
        · exact Or.inl q
        · exact Or.inr ⟨g', cap, q1, q2, Nat.lt_of_lt_of_le q3 HB.size, fun i hi i2 hi2 => (HB.cell (p := ⟨g', i * 5 + i2, none⟩) q3).trans (q4 i hi i2 hi2)⟩
      go_wp2_with fail
      refine (wLoad _ x.p.js id z0 wr HS1.out (by rw [← HNN.out]; exact hl) HJ.out).mono ?_
      rintro e y1 ⟨he, hY1⟩
      have hob := HO.out z0 x.p.js.length
      obtain ⟨o, ho⟩ : ∃ o, o = othN x.p.js id z0 x.p.js.length := ⟨_, rfl⟩
      have hoI : (o : Int) ≤ 200 := by rw [← ho, ← HNN.out] at hob; omega
      have HO1 : Hid (o = othN x.p.js id (t + (k : Int)) x.p.js.length) := by show _ = _; rw [ho, HZ.out]
      rw [← ho] at he
      clear ho hob
      subst he
      have HB1 := HB.trans (hY1.mono HB.size)
      have m1 := (hY1.cell (p := ⟨g, id * 5 + 1, none⟩) (Nat.lt_of_lt_of_le hg HB.size)).trans l1
      have c1 := (HW1.out.below hY1).c.2.1
      clear hY1 HB l1 l2 HW1 HS1
      obtain ⟨nn, hnn⟩ : ∃ nn, nn = x.p.nodes := ⟨_, rfl⟩
      rw [← hnn] at c1 hn
      have HNX : Hid (nn = x.p.nodes) := hnn
      clear hnn
      by_cases hfit : o + j.nd ≤ nn
      · have hfI : ¬ (nn : Int) < (o : Int) + (j.nd : Int) := by omega
        have HFN2 : Hid (fitsN x.p.js x.p.nodes id t (k + 1) = true) := by
          rw [HNX.out] at hfit
          refine (HRF.out (k + 1)).mpr ?_
          intro q hq
          by_cases e : q = k
          · subst e; rw [← HO1.out]; exact hfit
          · exact ((HRF.out k).mp HFN.out) q (by omega)
        go_wp2_with fail
        go_quiet (fail)
        go_wp2_with fail
        go_roundg (j.tm - (k + 1) + 1)
        case measure => omega
        case rel => exact ⟨k + 1, z0 + 1, by omega, rfl, by go_num, by show _ = _; have := HZ.out; omega, by have := HZ.out; omega, HFN2, below_drewN HB1 _⟩
      · have hfI : (nn : Int) < (o : Int) + (j.nd : Int) := by omega
        have HFF : Hid (fitsF x.p.js x.p.nodes id t = false) := by
          show _ = _
          rw [HNX.out] at hfit
          rw [HF.out, Bool.eq_false_iff]
          intro q
          apply hfit
          have := ((HRF.out j.tm).mp q) k hlt
          rw [← HO1.out] at this
          exact this
        go_wp2_with fail
        go_quiet (fail)
        go_wp2_with fail
        go_ret
        exact ⟨by rw [HFF.out]; rfl, below_drewN HB1 _⟩
    · have hlt' : ¬ z0 < t + (j.tm : Int) := by have := HZ.out; omega
      have hke : k = j.tm := by omega
      have HFF : Hid (fitsF x.p.js x.p.nodes id t = true) := by show _ = _; rw [HF.out, ← hke]; exact HFN.out
      go_wp2_with fail
      go_ret
      exact ⟨by rw [HFF.out]; rfl, HB⟩
end Go.Proofs.YtanknpmojblmcabGreatDoor

/-
  A world's walk: tight.
-/
set_option linter.unusedSimpArgs false
set_option linter.unusedVariables false
namespace Go.Proofs.YtanknpmojblmcabGreatDoor
open Go.RowKit

variable {D E : Nat → Prop} {bw sy kb : Nat} {x : WS} {gv jv qv bv : Value} {sl : Nat → Sl} {w w' : World}

theorem tmsQ_le (qs : List Nat) (id : Nat) : ∀ k, tmsQ qs id k ≤ k := by
  intro k
  induction k with
  | zero => exact Nat.le_refl _
  | succ k ih => unfold tmsQ; split <;> omega
theorem allQ_le (qs : List Nat) : ∀ n, allQ qs n ≤ n * qs.length := by
  intro n
  induction n with
  | zero => simp [allQ]
  | succ n ih =>
    unfold allQ
    have := tmsQ_le qs n qs.length
    rw [Nat.succ_mul]
    omega
theorem qs_cells {w : World} {base : Nat} {v : Value} {qs : List Nat} (h : w.ownsRow base 3 1 v qs.length (qs.map iV)) : ∃ a c, v = .slice a qs.length c ∧ ∀ k, k < qs.length → ∃ g, a = some ⟨g, 0, none⟩ ∧ qs.length ≤ c ∧ g < w.heap.size ∧ w.cell? ⟨g, k, none⟩ = some (.int .i64 ((qs.getD k 0 : Nat) : Int)) := by
  rcases h.2 with ⟨hv, hn⟩ | ⟨g, cap, cur, hv, h1, h2, h3, h4, h5, h6⟩
  · refine ⟨none, 0, by rw [hv, hn], ?_⟩
    intro k hk
    omega
  · subst hv
    refine ⟨_, _, rfl, ?_⟩
    intro k hk
    refine ⟨g, rfl, h3, whole_lt h2, ?_⟩
    rw [h.cellAt k (by omega)]
    simp [iV, List.getElem?_eq_getElem hk, hk]
theorem WOK.smlJ (h : WOK x) : SmlJ x.p.js := by
  intro k
  by_cases hk : k < x.p.js.length
  · have a := h.wi.st.ok.n.js _ (getD_in hk)
    have b := h.wi.st.soon hk
    have c := h.wi.st.ok.n.hi
    exact ⟨a.nd, a.tm, a.lo, by omega⟩
  · rw [show x.p.js.getD k pj0 = pj0 from by simp [Nat.le_of_not_lt hk]]
    decide
theorem Sts.belowN {v : Value} {js : List PJ} (h : Sts v js w) (k : Below w.heap.size w w') : Sts v js w' := by
  rcases h with h | ⟨g, cap, rfl, h2, h3, h4⟩
  · exact Or.inl h
  · exact Or.inr ⟨g, cap, rfl, h2, Nat.lt_of_lt_of_le h3 k.size, fun i hi j hj => (k.cell (p := ⟨g, i * 5 + j, none⟩) h3).trans (h4 i hi j hj)⟩

set_option maxRecDepth 100000 in
set_option maxHeartbeats 8000000 in
theorem wTight (h : WM D E bw sy kb x gv jv qv bv sl w) (lv : Value) (hS : Sts lv x.p.js w) (hx : WOK x) :
    Calls Tryz.prog 22 #[.pointer (some ⟨bw, 0, none⟩), lv] w fun e w' => e = .returned (.bool true) ∧ Below w.heap.size w w' := by
  obtain ⟨la, lc, rfl⟩ := hS.form
  have HC : Hid _ := hS.cells
  have HW : Hid (WM D E bw sy kb x gv jv qv bv sl w) := h
  have HX : Hid (WOK x) := hx
  have HS : Hid (Sts (.slice la x.p.js.length lc) x.p.js w) := hS
  have hl := hx.wi.st.ok.n.ln
  have hq := hx.wi.st.ok.ql
  have hn0 := hx.wi.st.ok.n.lo
  have hn1 := hx.wi.st.ok.n.hi
  have hbw := whole_lt h.wo
  have c0 := h.c.1
  clear h hS hx
  obtain ⟨now, hnow⟩ : ∃ now, now = x.p.now := ⟨_, rfl⟩
  rw [← hnow] at hn0 hn1
  have HNW : Hid (now = x.p.now) := hnow
  clear hnow
  obtain ⟨N, hN⟩ : ∃ N, N = x.p.js.length := ⟨_, rfl⟩
  rw [← hN] at hl HS ⊢
  have HNN : Hid (N = x.p.js.length) := hN
  clear hN
  go_enter Tryz.func22, Tryz.ntmps22
  go_wp2_with fail
  refine (syQueue HW.out.sm hq).mono ?_
  rintro e x1 ⟨q0, rfl, hown, hB⟩
  obtain ⟨qa, qc, rfl, hqc⟩ := qs_cells hown
  have HQC : Hid _ := hqc
  have HB1 : Hid (Below w.heap.size w x1) := hB
  clear hown hqc hB c0
  obtain ⟨L, hL⟩ : ∃ L, L = x.p.qs.length := ⟨_, rfl⟩
  rw [← hL] at hq ⊢
  have HLL : Hid (L = x.p.qs.length) := hL
  clear hL
  go_wp2_with fail
  go_loopg [6, 7] (N + 1) (fun r n z wr => ∃ (k na : Nat), k ≤ N ∧ r = N - k + 1 ∧ z = .int .i64 (k : Int) ∧ n = .int .i64 (na : Int) ∧ Hid (na = allQ x.p.qs k) ∧ Hid (Below x1.heap.size x1 wr))
  case atStart => exact ⟨0, 0, Nat.zero_le _, rfl, rfl, rfl, rfl, Below.refl _ _⟩
  case round =>
    obtain ⟨k, na, hk, rfl, rfl, rfl, HNQ, HB⟩ := hrel
    by_cases hlt : k < N
    · have hlt' : (k : Int) < (N : Int) := by omega
      go_wp2_with fail
      go_loopg [8, 9] (L + 1) (fun r n z wy => ∃ (i ti : Nat), i ≤ L ∧ r = L - i + 1 ∧ z = .int .i64 (i : Int) ∧ n = .int .i64 (ti : Int) ∧ Hid (ti = tmsQ x.p.qs k i) ∧ ti ≤ i ∧ Hid (Below x1.heap.size x1 wy))
      case atStart => exact ⟨0, 0, Nat.zero_le _, rfl, rfl, rfl, rfl, Nat.le_refl _, HB⟩
      case round =>
        clear HB
        obtain ⟨i, ti, hi, rfl, rfl, rfl, HTI, hti, HB⟩ := hrel
        rename World => wy
        by_cases hil : i < L
        · have hil' : (i : Int) < (L : Int) := by omega
          obtain ⟨g, rfl, hc, hg, hcell⟩ := HQC.out i (by rw [← HLL.out]; exact hil)
          rw [← HLL.out] at hc
          have l0 := (HB.out.cell (p := ⟨g, i, none⟩) hg).trans hcell
          have HT1 : Hid (tmsQ x.p.qs k (i + 1) = tmsQ x.p.qs k i + (if x.p.qs.getD i 0 = k then 1 else 0)) := rfl
          obtain ⟨q, hqq⟩ : ∃ q, q = x.p.qs.getD i 0 := ⟨_, rfl⟩
          rw [← hqq] at l0 HT1
          clear hcell hqq
          by_cases e : q = k
          · have HT2 : Hid (ti + 1 = tmsQ x.p.qs k (i + 1)) := by show _ = _; rw [HT1.out, if_pos e, HTI.out]
            have e1 : (q : Int) = (k : Int) := by omega
            clear HT1
            subst e
            go_wp2_with fail
            go_roundg (L - (i + 1) + 1)
            case measure => omega
            case rel => exact ⟨i + 1, ti + 1, by omega, rfl, by go_num, by go_num, HT2, by omega, HB⟩
          · have HT2 : Hid (ti = tmsQ x.p.qs k (i + 1)) := by show _ = _; rw [HT1.out, if_neg e, HTI.out]; rfl
            have e1 : ¬ (q : Int) = (k : Int) := by omega
            have e2 : ((q : Int) == (k : Int)) = false := by rw [beq_eq_false_iff_ne]; exact e1
            clear HT1
            go_wp2_with fail
            go_roundg (L - (i + 1) + 1)
            case measure => omega
            case rel => exact ⟨i + 1, ti, by omega, rfl, by go_num, rfl, HT2, by omega, HB⟩
        · have hil' : ¬ (i : Int) < (L : Int) := by omega
          have hie : i = L := by omega
          subst hie
          have HN1 : Hid (na + ti = allQ x.p.qs (k + 1)) := by
            show _ = _
            rw [HNQ.out, HTI.out, HLL.out]; rfl
          have hnb : na ≤ 600 := by
            have a := allQ_le x.p.qs k
            rw [← HNQ.out, ← HLL.out] at a
            have b : k * i ≤ 24 * 24 := Nat.mul_le_mul (by omega) (by omega)
            omega
          have HTM : Hid (ti = if k ∈ x.p.qs then 1 else 0) := by
            show _ = _
            rw [HTI.out, HLL.out]; exact tmsQ_mem HX.out.wi.st.ok.q.nd k
          obtain ⟨g, rfl, hc, hg, hcell⟩ := HC.out k (by rw [← HNN.out]; exact hlt)
          rw [← HNN.out] at hc
          have HB2 : Hid (Below w.heap.size w wy) := HB1.out.trans (HB.out.mono HB1.out.size)
          have l0 := (HB2.out.cell (p := ⟨g, k * 5 + 0, none⟩) hg).trans (hcell 0 (by omega))
          have l3 := (HB2.out.cell (p := ⟨g, k * 5 + 3, none⟩) hg).trans (hcell 3 (by omega))
          have c2 := (HB2.out.cell (p := ⟨bw, 2, none⟩) hbw).trans HW.out.c.2.2.1
          rw [← HNW.out] at c2
          have hsm := WOK.smlJ HX.out k
          have hso := HX.out.wi.st.soon (i := k) (by rw [← HNN.out]; exact hlt)
          rw [← HNW.out] at hso
          have HST : Hid (∀ hs : (x.p.js.getD k pj0).st = 1, (x.p.now < (x.p.js.getD k pj0).sa) ∧ (∀ t, x.p.now ≤ t → t < (x.p.js.getD k pj0).sa → fitsF x.p.js x.p.nodes k t = false) ∧ fitsF x.p.js x.p.nodes k (x.p.js.getD k pj0).sa = true ∧ k ∈ x.p.qs) := by
            intro hs
            have hkl : k < x.p.js.length := by rw [← HNN.out]; exact hlt
            exact ⟨HX.out.wi.st.l k hkl hs, HX.out.wi.st.g k hkl hs, HX.out.wi.st.room hkl hs, HX.out.wi.st.ok.q.al k hkl hs⟩
          have HNQ1 : Hid ((x.p.js.getD k pj0).st ≠ 1 → k ∉ x.p.qs) := fun q1 q2 => q1 (HX.out.wi.st.ok.q.q1 k q2)
          obtain ⟨j, hj⟩ : ∃ j, j = x.p.js.getD k pj0 := ⟨_, rfl⟩
          rw [← hj] at l0 l3 hsm hso HST HNQ1
          simp [stC] at l0 l3
          obtain ⟨_, _, hs1, hs2⟩ := hsm
          have HL3 : Hid (w.cell? ⟨g, k * 5 + 3, none⟩ = some (.int .i64 j.sa)) := by
            have := hcell 3 (by omega)
            rw [← hj] at this
            simp [stC] at this
            exact this
          have HBY := HB
          clear hj hcell HTI HNQ HB
          have ndx := HX.out.wi.st.ok.n.nd
          have HND : Hid (x.p.nodes ≤ 8) := ndx
          clear ndx
          by_cases est : j.st = 1
          · obtain ⟨a1, a2, a3, a4⟩ := HST.out est
            have hti1 : ti = 1 := by rw [HTM.out, if_pos a4]
            rw [← HNW.out] at a1
            have HA2 : Hid (∀ t, now ≤ t → t < j.sa → fitsF x.p.js x.p.nodes k t = false) := by rw [HNW.out]; exact a2
            have HA3 : Hid (fitsF x.p.js x.p.nodes k j.sa = true) := a3
            have esI : (j.st : Int) = 1 := by omega
            have hsoI : ¬ now + 288 < j.sa := by omega
            clear HTM a2 a3 a4 HST HNQ1
            subst hti1
            go_upto_if 63 with fail
            go_quiet (fail)
            go_wp2_with fail
            go_loopg [10] ((j.sa - now).toNat + 1) (fun r z wz => ∃ (t : Int), now ≤ t ∧ t ≤ j.sa ∧ r = (j.sa - t).toNat + 1 ∧ z = .int .i64 t ∧ Hid (Below w.heap.size w wz) ∧ Hid (Below x1.heap.size x1 wz))
            case atStart => exact ⟨now, by omega, by omega, rfl, rfl, below_drewN HB2.out _, below_drewN HBY.out _⟩
            case round =>
              clear HB2 l0 l3 c2
              obtain ⟨t, ht1, ht2, rfl, rfl, HB3, HB0⟩ := hrel
              rename World => wz
              have l3 := (HB3.out.cell (p := ⟨g, k * 5 + 3, none⟩) hg).trans (HL3.out)
              have HW3 : Hid (WM D E bw sy kb x gv jv qv bv sl wz) := HW.out.below HB3.out
              have HS3 : Hid (Sts (.slice (some ⟨g, 0, none⟩) N lc) x.p.js wz) := HS.out.belowN HB3.out
              by_cases htl : t < j.sa
              · go_wp2_with fail
                refine (wRoom HW3.out _ HS3.out (by rw [← HNN.out]; exact hl) (WOK.smlJ HX.out) k (by rw [← HNN.out]; exact hlt) t (by omega) (by omega) HND.out).mono ?_
                rintro e y1 ⟨he, hY1⟩
                rw [HA2.out t ht1 htl] at he
                subst he
                have HB4 : Hid (Below w.heap.size w y1) := HB3.out.trans (hY1.mono HB3.out.size)
                have HB5 : Hid (Below x1.heap.size x1 y1) := HB0.out.trans (hY1.mono HB0.out.size)
                clear hY1 l3
                go_wp2_with fail
                go_roundg ((j.sa - (t + 1)).toNat + 1)
                case measure => omega
                case rel => exact ⟨t + 1, by omega, by omega, rfl, by go_num, HB4, HB5⟩
              · have hte : t = j.sa := by omega
                subst hte
                go_wp2_with fail
                refine (wRoom HW3.out _ HS3.out (by rw [← HNN.out]; exact hl) (WOK.smlJ HX.out) k (by rw [← HNN.out]; exact hlt) j.sa (by omega) (by omega) HND.out).mono ?_
                rintro e y1 ⟨he, hY1⟩
                rw [HA3.out] at he
                subst he
                have HB4 : Hid (Below x1.heap.size x1 y1) := HB0.out.trans (hY1.mono HB0.out.size)
                clear hY1 l3
                go_wp2_with fail
                go_roundg (N - (k + 1) + 1)
                case measure => omega
                case rel => exact ⟨k + 1, na + 1, by omega, rfl, by go_num, by go_num, HN1, HB4⟩
          · have hti0 : ti = 0 := by rw [HTM.out, if_neg (HNQ1.out est)]
            have esI : ((j.st : Int) != 1) = true := by simp; omega
            have esJ : ¬ (j.st : Int) = 1 := by omega
            clear HTM HST HNQ1
            subst hti0
            go_wp2_with fail
            go_roundg (N - (k + 1) + 1)
            case measure => omega
            case rel => exact ⟨k + 1, na, by omega, rfl, by go_num, by go_num, HN1, HBY⟩
    · have hlt' : ¬ (k : Int) < (N : Int) := by omega
      have hke : k = N := by omega
      have HFIN : Hid (na = L) := by
        show _ = _
        rw [HNQ.out, hke, HNN.out, allQ_len HX.out.wi.st.ok.q.lt, HLL.out]
      clear HNQ
      have := HFIN.out
      subst this
      go_wp2_with fail
      go_ret
      exact ⟨rfl, HB1.out.trans (HB.out.mono HB1.out.size)⟩
end Go.Proofs.YtanknpmojblmcabGreatDoor

/-
  A world's walk: Tight.
-/
set_option linter.unusedSimpArgs false
set_option linter.unusedVariables false
namespace Go.Proofs.YtanknpmojblmcabGreatDoor
open Go.RowKit

variable {D E : Nat → Prop} {bw sy kb : Nat} {x : WS} {gv jv qv bv : Value} {sl : Nat → Sl} {w w' : World}

set_option maxRecDepth 100000 in
set_option maxHeartbeats 8000000 in
theorem walk_tight (c : Int) (hc1 : -9223372036854775808 ≤ c) (hc2 : c ≤ 9223372036854775807) (a : Option Addr) (len cap : Nat) (w : World) (hM : IsMvs w a len cap) :
    Calls Tryz.prog 9 #[.int .i64 c, .slice a len cap, .int .i64 4] w fun e w' => e = .returned (.bool true) ∧ Below w.heap.size w w' := by
  have hcap := hM.cap_
  unfold maxLen at hcap
  have HM : Hid (IsMvs w a len cap) := hM
  clear hM
  go_enter Tryz.func9, Tryz.ntmps9
  go_wp2_with fail
  refine (wBegin c hc1 hc2 w).mono ?_
  rintro e x1 ⟨bw, sy, kb, rfl, hW, hB⟩
  have hN : pikD c % 8 < 8 := Nat.mod_lt _ (by omega)
  have HW0 : Hid (WMe (fun j => w.heap.size ≤ j) bw sy ⟨newP (1 + pikD c % 8), [], 0⟩ x1) := ⟨_, _, _, _, _, _, _, hW⟩
  have HK0 : Hid (WOK ⟨newP (1 + pikD c % 8), [], 0⟩) := new_wok _ (by omega) (by omega)
  have HB0 : Hid (Below w.heap.size w x1) := hB
  clear hW hB hN
  go_wp2_with fail
  go_loopg [9, 11] (len + 1) (fun r la z wr => ∃ (k : Nat) (x : WS) (D : Nat → Prop), k ≤ len ∧ r = len - k + 1 ∧ z = .int .i64 (k : Int) ∧ Hid (WOK x) ∧ Hid (∀ j, D j → w.heap.size ≤ j) ∧ Hid (WMe D bw sy x wr) ∧ Hid (Below w.heap.size w wr) ∧ Hid (Sts la x.p.js wr) ∧ Hid (∀ g, la.ownBlock = some g → ¬ D g))
  case atStart => exact ⟨0, _, _, Nat.zero_le _, rfl, rfl, HK0, fun _ h => h, HW0, HB0, Or.inl ⟨rfl, rfl⟩, by intro g hg; simp [Value.ownBlock] at hg⟩
  case round =>
    obtain ⟨k, x, D, hk, rfl, rfl, HK, HD, HW, HB, HLA, HLD⟩ := hrel
    by_cases hlt : k < len
    · have hlt' : (k : Int) < (len : Int) := by omega
      obtain ⟨b, off, m, rfl, hl, hm, hbl, hmo, h1, h2, h3, h4⟩ := HM.out.at_ hlt
      replace h1 := (HB.out.cell (p := ⟨b, off + k * 4, none⟩) hbl).trans h1
      replace h2 := (HB.out.cell (p := ⟨b, off + k * 4 + 1, none⟩) hbl).trans h2
      replace h3 := (HB.out.cell (p := ⟨b, off + k * 4 + 2, none⟩) hbl).trans h3
      replace h4 := (HB.out.cell (p := ⟨b, off + k * 4 + 3, none⟩) hbl).trans h4
      have HMO : Hid (MvOK m) := hmo
      obtain ⟨st1, st2, st3, st4⟩ := step_ok HK.out m
      have HSTEP : Hid (WOK (stepW x m)) := st1
      have HKEPT : Hid (x.p.js.length ≤ (stepW x m).p.js.length ∧ ∀ i, i < x.p.js.length → KeptJ (stepW x m).p.now (x.p.js.getD i pj0) ((stepW x m).p.js.getD i pj0) ∧ (x.p.js.getD i pj0).st ≤ 6) := ⟨st3, fun i hi => ⟨st4 i hi, (HK.out.wi.st.ok.n.js _ (getD_in hi)).st⟩⟩
      clear st1 st2 st3 st4
      obtain ⟨E, kb1, gv, jv, qv, bv, sl, hWx⟩ := HW.out
      have c3 := hWx.c.2.2.2
      have k1 := hWx.bm.bk.c 1
      simp at k1
      clear hWx hmo
      go_wp2_with fail
      refine (wMove HW.out HK.out m HMO.out).mono ?_
      rintro e y1 ⟨rfl, hWM, hKp⟩
      have HB1 : Hid (Below w.heap.size w y1) := HB.out.trans (hKp.lowD HD.out)
      have HW1 : Hid (WMe D bw sy (stepW x m) y1) := hWM
      have HLA1 : Hid (Sts _ x.p.js y1) := HLA.out.keepD HLD.out hKp
      clear hWM hKp h1 h2 h3 h4 c3 k1 HW HB HLA
      obtain ⟨E2, kb2, gv2, jv2, qv2, bv2, sl2, hW2⟩ := HW1.out
      have HW2 : Hid (WM D E2 bw sy kb2 (stepW x m) gv2 jv2 qv2 bv2 sl2 y1) := hW2
      clear hW2
      go_wp2_with fail
      refine (wAll HW2.out HSTEP.out).mono ?_
      rintro e y2 ⟨lv, rfl, hrow, hY2⟩
      have HST : Hid (Sts lv (stepW x m).p.js y2) := Sts.of hrow
      have HW3 : Hid (WM (fun j => (D j ∧ j < y1.heap.size) ∨ y2.heap.size ≤ j) (fun j => (E2 j ∧ j < y1.heap.size) ∨ y2.heap.size ≤ j) bw sy kb2 (stepW x m) gv2 jv2 qv2 bv2 sl2 y2) := HW2.out.narrowD hY2
      have HB2 : Hid (Below w.heap.size w y2) := HB1.out.trans (hY2.mono HB1.out.size)
      have HLA2 : Hid (Sts _ x.p.js y2) := HLA1.out.below hY2
      have hs1 := HB1.out.size
      have HD2 : Hid (∀ j, ((D j ∧ j < y1.heap.size) ∨ y2.heap.size ≤ j) → w.heap.size ≤ j) := by
        intro j hj
        have := HB2.out.size
        rcases hj with q | q
        · exact HD.out j q.1
        · omega
      have HLD2 : Hid (∀ g, lv.ownBlock = some g → ¬ ((D g ∧ g < y1.heap.size) ∨ y2.heap.size ≤ g)) := by
        intro g hg q
        have := hrow.lt g hg
        rcases q with q | q
        · have := q.2; omega
        · omega
      clear hrow hY2 HLA1 hs1
      go_wp2_with fail
      refine (wTight HW3.out lv HST.out HSTEP.out).mono ?_
      rintro e y3 ⟨rfl, hY3⟩
      have HW4 : Hid (WMe (fun j => (D j ∧ j < y1.heap.size) ∨ y2.heap.size ≤ j) bw sy (stepW x m) y3) := ⟨_, _, _, _, _, _, _, HW3.out.below hY3⟩
      have HB3 : Hid (Below w.heap.size w y3) := HB2.out.trans (hY3.mono HB2.out.size)
      have HST3 : Hid (Sts lv (stepW x m).p.js y3) := HST.out.below hY3
      clear hY3
      go_wp2_with fail
      go_roundg (len - (k + 1) + 1)
      case measure => omega
      case rel => exact ⟨k + 1, stepW x m, _, by omega, rfl, by go_num, HSTEP, HD2, HW4, HB3, HST3, HLD2⟩
    · have hlt' : ¬ (k : Int) < (len : Int) := by omega
      go_wp2_with fail
      go_ret
      exact ⟨rfl, HB.out⟩

set_option maxRecDepth 100000 in
set_option maxHeartbeats 2000000 in
theorem Tight_walk (c : Int) (hc1 : -9223372036854775808 ≤ c) (hc2 : c ≤ 9223372036854775807) (a : Option Addr) (len cap : Nat) (w : World) (hM : IsMvs w a len cap) :
    Calls Tryz.prog 5 #[.int .i64 c, .slice a len cap] w fun e w' => e = .returned (.bool true) ∧ Below w.heap.size w w' := by
  go_enter Tryz.func5, Tryz.ntmps5
  go_wp2_with fail
  refine (walk_tight c hc1 hc2 a len cap w hM).mono ?_
  rintro e y ⟨rfl, hY⟩
  go_wp2_with fail
  go_ret
  exact ⟨rfl, hY⟩
end Go.Proofs.YtanknpmojblmcabGreatDoor
