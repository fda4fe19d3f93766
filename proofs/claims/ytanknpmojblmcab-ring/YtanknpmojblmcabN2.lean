/-
  PlQ PlH PlI PlJ PlK PlL PlM PlN PlR PlS RgD, put together.
-/
import Derived.Test.YtanknpmojblmcabN1
/-
  What the pool does keeps its numbers small, and the queue in order.
-/
set_option linter.unusedSimpArgs false
set_option linter.unusedVariables false
namespace Go.Proofs.Ytanknpmojblmcab

structure POK (p : PS) : Prop where
  n : NOK p
  q : QOK p.js p.qs
theorem POK.ql {p : PS} (h : POK p) : p.qs.length ≤ 24 := h.q.ln h.n.ln

theorem giveF_ok : ∀ (k : Nat) (p : PS), POK p → POK (p.withJ (giveF p.now k p.js)) := by
  intro k
  induction k with
  | zero => intro p h; exact h
  | succ k ih =>
    intro p h
    have h1 : POK (p.withJ (giveN p.now p.js p.js.length).1) := ⟨giveN_ok h.n _ (Nat.le_refl _), giveN_qok _ h.q _ (Nat.le_refl _)⟩
    unfold giveF
    split
    · exact ih _ h1
    · exact h1
theorem giveUpF_ok {p : PS} (h : POK p) : POK (giveUpF p) := giveF_ok _ p h

theorem moveF_ok : ∀ (k : Nat) (p : PS), POK p → POK (p.withJ (moveF p.nodes p.now p.qs k p.js)) := by
  intro k
  induction k with
  | zero => intro p h; exact h
  | succ k ih =>
    intro p h
    have h1 : POK (p.withJ (moveN p.nodes p.now p.qs p.js p.qs.length).1) := ⟨moveN_ok h.n h.q.lt _ (Nat.le_refl _), moveN_qok _ _ h.q _ (Nat.le_refl _)⟩
    unfold moveF
    split
    · exact ih _ h1
    · exact h1
theorem moveUpF_ok {p : PS} (h : POK p) : POK (moveUpF p) := moveF_ok _ p h
theorem queueUpF_ok {p : PS} (h : POK p) : POK (queueUpF p) := by
  obtain ⟨h1, h2⟩ := queN_ok h.n h.q p.js.length (Nat.le_refl _)
  exact ⟨⟨h1.js, h1.ln, h1.nd, h1.lo, h1.hi, h1.sa, h1.ov⟩, h2⟩
theorem beginF_ok {p : PS} (h : POK p) : POK (beginF p) := by
  obtain ⟨h1, h2⟩ := begN_ok h.n h.q p.qs.length (Nat.le_refl _)
  refine ⟨⟨h1.js, h1.ln, h1.nd, h1.lo, h1.hi, h1.sa, h1.ov⟩, ?_⟩
  rw [List.drop_length, List.append_nil] at h2
  exact h2
theorem settleF_ok {p : PS} (h : POK p) : POK (settleF p) := beginF_ok (queueUpF_ok (moveUpF_ok (giveUpF_ok h)))

theorem passN_len (now : Int) (js : List PJ) : ∀ n, (passN now js n).length = js.length := by
  intro n
  induction n with
  | zero => rfl
  | succ n ih => unfold passN; split <;> simp [ih]
theorem passN_ok {p : PS} (h : POK p) : ∀ n, n ≤ p.js.length → POK (p.withJ (passN p.now p.js n)) := by
  intro n
  induction n with
  | zero => intro _; exact h
  | succ n ih =>
    intro hn
    have h1 := ih (by omega)
    have hl := passN_len p.now p.js n
    unfold passN
    split
    · rename_i hc
      have hi : n < (passN p.now p.js n).length := by omega
      have hm := h1.n.sa _ (List.getElem_mem (show n < (p.withJ (passN p.now p.js n)).js.length from hi))
      have hj := h1.n.js _ (List.getElem_mem (show n < (p.withJ (passN p.now p.js n)).js.length from hi))
      rw [getD_get hi] at hc ⊢
      exact ⟨h1.n.set n hi _ (by show 4 ≤ 6; omega) rfl rfl rfl hj.lo hm (by intro q; simp [hasS, PJ.toEn, PJ.toSt] at q) (by intro q; simp [PJ.toEn, PJ.toSt] at q), h1.q.set n hi _ (by
        show 4 = 1 ↔ (passN p.now p.js n)[n].st = 1
        rw [hc.1]; simp)⟩
    · exact h1
theorem later_ok {p : PS} (h : POK p) (hn : p.now < 5000) : POK { p with now := p.now + 1 } :=
  ⟨⟨h.n.js, h.n.ln, h.n.nd, by have := h.n.lo; show 0 ≤ p.now + 1; omega, by show p.now + 1 ≤ 5000; omega, fun j hj => by have := h.n.sa j hj; show j.sa ≤ p.now + 1 + (sumT p.js : Int); omega, fun j hj hh => by have := h.n.ov j hj hh; show overJ j ≤ p.now + 1 + (sumT p.js : Int); omega⟩, h.q⟩
theorem passF_ok {p : PS} (h : POK p) (hn : p.now < 5000) : POK (passF p) := settleF_ok (passN_ok (later_ok h hn) _ (Nat.le_refl _))

theorem giveF_now (k : Nat) (p : PS) : (giveUpF p).now = p.now ∧ (giveUpF p).nodes = p.nodes ∧ (giveUpF p).gs = p.gs ∧ (giveUpF p).qs = p.qs := ⟨rfl, rfl, rfl, rfl⟩
theorem settleF_now (p : PS) : (settleF p).now = p.now := rfl
theorem settleF_nodes (p : PS) : (settleF p).nodes = p.nodes := rfl
theorem settleF_gs (p : PS) : (settleF p).gs = p.gs := rfl

def endP (p : PS) (id st : Nat) : PS := p.withJ (p.js.set id (((p.js.getD id pj0).toSt st).toEn p.now))
def leaveP (p : PS) (id : Nat) : PS := { p with js := p.js.set id ((p.js.getD id pj0).toSa (-1)), qs := p.qs.filter (fun k => k ≠ id) }
def hasP (p : PS) (id : Int) : Bool := decide (0 ≤ id) && decide (id < (p.js.length : Int))
def finishF (p : PS) (id : Int) (ok : Bool) : PS × Nat :=
  if hasP p id = false then (p, 11) else if (p.js.getD id.toNat pj0).st ≠ 2 then (p, 12) else (settleF (endP p id.toNat (if ok then 3 else 4)), 0)
def cancelF (p : PS) (id : Int) : PS × Nat :=
  if hasP p id = false then (p, 11) else if 3 ≤ (p.js.getD id.toNat pj0).st then (p, 12) else (settleF (endP (if (p.js.getD id.toNat pj0).st = 1 then leaveP p id.toNat else p) id.toNat 5), 0)
def tickN (p : PS) : Nat → PS
  | 0 => p
  | n + 1 => passF (tickN p n)
def tickF (p : PS) (n : Int) : PS × Nat :=
  if n < 1 ∨ 200 < n then (p, 10) else if 3000 < p.now + n then (p, 13) else (tickN p n.toNat, 0)

theorem filter_split {i : Nat} : ∀ {qs : List Nat}, qs.Nodup → i ∈ qs → ∃ A B, qs = A ++ i :: B ∧ qs.filter (fun k => k ≠ i) = A ++ B := by
  intro qs
  induction qs with
  | nil => intro _ h; simp at h
  | cons a r ih =>
    intro hn hi
    rw [List.nodup_cons] at hn
    by_cases e : a = i
    · subst e
      refine ⟨[], r, rfl, ?_⟩
      have : r.filter (fun k => k ≠ a) = r := by
        rw [List.filter_eq_self]
        intro x hx
        simp
        exact fun e => hn.1 (e ▸ hx)
      simp [this]
      simpa using this
    · have hi' : i ∈ r := by
        rcases List.mem_cons.mp hi with h | h
        · exact absurd h.symm e
        · exact h
      obtain ⟨A, B, h1, h2⟩ := ih hn.2 hi'
      refine ⟨a :: A, B, by rw [h1]; rfl, ?_⟩
      rw [List.filter_cons]
      simp only [decide_eq_true_eq, ne_eq, e, not_false_eq_true, if_true]
      simp only [ne_eq] at h2
      rw [h2]; rfl

theorem endP_ok {p : PS} (h : POK p) (id st : Nat) (hid : id < p.js.length) (h0 : (p.js.getD id pj0).st ≠ 1) (h1 : st ≤ 6) (h2 : 3 ≤ st) : POK (endP p id st) := by
  unfold endP
  have hm := h.n.sa _ (List.getElem_mem hid)
  have hj := h.n.js _ (List.getElem_mem hid)
  rw [getD_get hid] at h0 ⊢
  have a1 : hasS ((p.js[id].toSt st).toEn p.now) = false := by
    simp [hasS, PJ.toEn, PJ.toSt]; omega
  refine ⟨h.n.set id hid _ h1 rfl rfl rfl hj.lo hm (by rw [a1]; simp) ?_, h.q.set id hid _ ?_⟩
  · intro q
    change st = 0 at q
    omega
  · constructor
    · intro q; change st = 1 at q; omega
    · intro q; exact absurd q h0
theorem leaveP_ok {p : PS} (h : POK p) (id : Nat) (hid : id < p.js.length) (h0 : (p.js.getD id pj0).st = 1) : POK (endP (leaveP p id) id 5) := by
  have hmem := h.q.al id hid h0
  obtain ⟨A, B, e1, e2⟩ := filter_split h.q.nd hmem
  have hm := h.n.sa _ (List.getElem_mem hid)
  have hj := h.n.js _ (List.getElem_mem hid)
  have hlo := h.n.lo
  have eq : endP (leaveP p id) id 5 = { p with js := p.js.set id (((p.js[id].toSa (-1)).toSt 5).toEn p.now), qs := A ++ B } := by
    unfold endP leaveP PS.withJ
    simp only [e2]
    congr 1
    rw [getD_set hid, if_pos rfl, List.set_set, getD_get hid]
  rw [eq]
  have hN := h.n.set id hid (((p.js[id].toSa (-1)).toSt 5).toEn p.now) (by show 5 ≤ 6; omega) rfl rfl rfl (by show -1 ≤ -1; omega) (by show -1 ≤ p.now + (sumT p.js : Int); omega) (by intro q; simp [hasS, PJ.toEn, PJ.toSt] at q) (by intro q; simp [PJ.toEn, PJ.toSt] at q)
  have hq := h.q
  rw [e1] at hq
  exact ⟨⟨hN.js, hN.ln, hN.nd, hN.lo, hN.hi, hN.sa, hN.ov⟩, hq.pop hid _ (by simp [PJ.toEn, PJ.toSt])⟩

theorem has_lt {p : PS} {id : Int} (h : ¬ hasP p id = false) : 0 ≤ id ∧ id.toNat < p.js.length ∧ ((id.toNat : Nat) : Int) = id := by
  unfold hasP at h
  simp at h
  omega
theorem finishF_ok {p : PS} (h : POK p) (id : Int) (ok : Bool) : POK (finishF p id ok).1 := by
  unfold finishF
  split
  · exact h
  · rename_i h1
    obtain ⟨_, h2, _⟩ := has_lt h1
    split
    · exact h
    · rename_i h3
      simp only [ne_eq, Decidable.not_not] at h3
      exact settleF_ok (endP_ok h _ _ h2 (by rw [h3]; decide) (by split <;> omega) (by split <;> omega))
theorem cancelF_ok {p : PS} (h : POK p) (id : Int) : POK (cancelF p id).1 := by
  unfold cancelF
  split
  · exact h
  · rename_i h1
    obtain ⟨_, h2, _⟩ := has_lt h1
    split
    · exact h
    · rename_i h3
      by_cases h4 : (p.js.getD id.toNat pj0).st = 1
      · simp only [h4, if_true]
        exact settleF_ok (leaveP_ok h _ h2 h4)
      · simp only [h4, if_false]
        exact settleF_ok (endP_ok h _ _ h2 h4 (by omega) (by omega))
theorem tickN_ok {p : PS} (h : POK p) : ∀ n : Nat, p.now + (n : Int) ≤ 5000 → POK (tickN p n) ∧ (tickN p n).now = p.now + (n : Int) := by
  intro n
  induction n with
  | zero => intro _; exact ⟨h, by simp [tickN]⟩
  | succ n ih =>
    intro hn
    obtain ⟨h1, h2⟩ := ih (by omega)
    refine ⟨passF_ok h1 (by omega), ?_⟩
    show (tickN p n).now + 1 = _
    rw [h2]; omega
theorem tickF_ok {p : PS} (h : POK p) (n : Int) : POK (tickF p n).1 := by
  unfold tickF
  split
  · exact h
  · split
    · exact h
    · exact (tickN_ok h n.toNat (by omega)).1
end Go.Proofs.Ytanknpmojblmcab

/-
  Package pool: whether a job is Held and has a value.
-/
set_option linter.unusedSimpArgs false
set_option linter.unusedVariables false
namespace Go.Proofs.Ytanknpmojblmcab
open Go.RowKit

variable {D : Nat → Prop} {s : Nat} {p : PS} {gv jv qv : Value} {w w' : World}

theorem ints_st {w : World} {base : Nat} {v : Value} {js : List PJ} (h : w.ownsRow base 3 1 v js.length (sttL js)) : IntsB w.heap.size v (stI js) w := by
  have hl : (stI js).length = js.length := by simp [stI]
  rcases h.2 with ⟨hv, hn⟩ | ⟨g, cap, cur, hv, h1, h2, h3, h4, h5, h6⟩
  · exact Or.inl ⟨hv, List.eq_nil_of_length_eq_zero (by omega)⟩
  · right
    subst hv
    refine ⟨g, cap, by rw [hl], by omega, whole_lt h2, ?_⟩
    intro k hk
    rw [h.cellAt k (by omega)]
    simp [sttL, stI, iV, show k < js.length by omega]

theorem beq_dec (a b : Nat) : ((a : Int) == (b : Int)) = decide (a = b) := by
  by_cases h : a = b
  · subst h; simp
  · have h' : (a : Int) ≠ (b : Int) := by omega
    simp [h, h']

set_option maxRecDepth 100000 in
set_option maxHeartbeats 1000000 in
theorem plIsHeld (h : SM D s p gv jv qv w) (hN : NOK p) (id v : Nat) (hid : id < p.js.length) (hv : v ≤ 2) :
    Calls Try.prog 58 #[.pointer (some ⟨s, 1, none⟩), .int .i64 (id : Int), .int .i64 (v : Int)] w fun e w' => e = .returned (.bool (heldB p.js id v)) ∧ Below w.heap.size w w' := by
  have HN : Hid (NOK p) := hN
  have hl := hN.ln
  obtain ⟨g, cap, rfl⟩ := h.jform hid
  have HS : Hid (SM D s p gv (.slice (some ⟨g, 0, none⟩) p.js.length cap) qv w) := h
  have c3 := h.pl.c 3
  simp at c3
  obtain ⟨l0, l1, l2, l3, l4, l5⟩ := h.jc hid
  have hj := hN.js _ (List.getElem_mem hid)
  have hst := hj.st
  have hcd := hj.cd
  clear h hN hj l2 l3 l4 l5
  have HE : Hid (heldB p.js id v = (decide (p.js[id].st = 0) && decide ((runE p.js[id].code (stI p.js)).1 = v))) := by
    show _ = _
    unfold heldB valJ
    rw [getD_get hid]
  by_cases h0 : p.js[id].st = 0
  · rw [h0] at l1
    have HE2 : Hid (heldB p.js id v = (((runE p.js[id].code (stI p.js)).1 : Int) == (v : Int))) := by
      show _ = _
      rw [HE.out, h0, beq_dec]
      simp
    go_enter Try.func58, Try.ntmps58
    go_wp2_with fail
    refine (plStates s gv p.nodes p.now _ qv p.js w HS.out.pl (Ps.of HS.out.jr) (by omega) HN.out.pj).mono ?_
    rintro e w1 ⟨x, rfl, hown, hB⟩
    have c3' := (hB.cell (p := ⟨s, 3, none⟩) HS.out.pl.lt).trans c3
    have l0' := (hB.cell (p := ⟨g, id * 6, none⟩) (HS.out.jr.lt g rfl).2).trans l0
    have HB : Hid (Below w.heap.size w w1) := hB
    have HI : Hid (IntsB w1.heap.size x (stI p.js) w1) := ints_st hown
    clear hown hB c3 l0 l1
    go_wp2_with fail
    have HBS : Hid ((bs p.js[id].code).data.toList = p.js[id].code) := by show _ = _; simp [bs]
    refine (Run_any _ x (stI p.js) w1 HI.out (by rw [bs_size]; unfold maxLen; omega)).mono ?_
    rintro e w2 ⟨rfl, hB2⟩
    have HB2 : Hid (Below w.heap.size w w2) := HB.out.trans (hB2.mono HB.out.size)
    clear hB2
    rw [HBS.out]
    go_wp2_with fail
    go_ret
    exact ⟨by rw [HE2.out]; rfl, HB2.out⟩
  · have h0' : ((p.js[id].st : Int) == 0) = false := by rw [beq_eq_false_iff_ne]; omega
    go_enter Try.func58, Try.ntmps58
    go_wp2_with fail
    go_ret
    exact ⟨by rw [HE.out]; simp [h0], Below.refl _ _⟩
end Go.Proofs.Ytanknpmojblmcab

/-
  Package pool: queued jobs move up.
-/
set_option linter.unusedSimpArgs false
set_option linter.unusedVariables false
namespace Go.Proofs.Ytanknpmojblmcab
open Go.RowKit

variable {D : Nat → Prop} {s : Nat} {p : PS} {gv jv qv : Value} {w w' : World}

theorem getD_q {qs : List Nat} {n : Nat} (h : n < qs.length) : qs.getD n 0 = qs[n] := by simp [h]

set_option maxRecDepth 100000 in
set_option maxHeartbeats 1000000 in
theorem plMoveEach (h : SM D s p gv jv qv w) (hP : POK p) :
    Calls Try.prog 59 #[.pointer (some ⟨s, 1, none⟩)] w fun e w' => e = .returned (.bool (moveN p.nodes p.now p.qs p.js p.qs.length).2) ∧ SM D s (p.withJ (moveN p.nodes p.now p.qs p.js p.qs.length).1) gv jv qv w' ∧ Keep D w w' := by
  have HP : Hid (POK p) := hP
  have hl := hP.n.ln
  have hql := hP.ql
  have hn8 := hP.n.nd; have n1 := hP.n.lo; have n2 := hP.n.hi
  clear hP
  obtain ⟨a, c, rfl⟩ := (Ns.of h.qr).form
  have HS : Hid (SM D s p gv jv (.slice a p.qs.length c) w) := h
  have c4 := h.pl.c 4
  simp at c4
  clear h
  go_enter Try.func59, Try.ntmps59
  go_wp2_with fail
  go_loopg [3, 12] (p.qs.length + 1) (fun r mv x wr => ∃ (n : Nat) (wz : World), wz = wr ∧ n ≤ p.qs.length ∧ r = p.qs.length - n + 1 ∧ x = .int .i64 (n : Int) ∧ mv = .bool (moveN p.nodes p.now p.qs p.js n).2 ∧ Hid (SM D s (p.withJ (moveN p.nodes p.now p.qs p.js n).1) gv jv (.slice a p.qs.length c) wz) ∧ Hid (Keep D w wz))
  case atStart => exact ⟨0, _, rfl, Nat.zero_le _, rfl, rfl, rfl, HS, Keep.refl _ _⟩
  case round =>
    obtain ⟨n, wz, rfl, hn, rfl, rfl, rfl, H1, K1⟩ := hrel
    by_cases hlt : n < p.qs.length
    · have hlt' : (n : Int) < (p.qs.length : Int) := by omega
      have HN := moveN_ok HP.out.n HP.out.q.lt n hn
      have HSU : Hid (moveN p.nodes p.now p.qs p.js (n + 1) = if earlF (moveN p.nodes p.now p.qs p.js n).1 p.nodes p.qs[n] p.now < ((moveN p.nodes p.now p.qs p.js n).1.getD p.qs[n] pj0).sa then ((moveN p.nodes p.now p.qs p.js n).1.set p.qs[n] (((moveN p.nodes p.now p.qs p.js n).1.getD p.qs[n] pj0).toSa (earlF (moveN p.nodes p.now p.qs p.js n).1 p.nodes p.qs[n] p.now)), true) else moveN p.nodes p.now p.qs p.js n) := by
        show _ = _
        rw [← getD_q hlt]; rfl
      have hqn : p.qs[n] < (moveN p.nodes p.now p.qs p.js n).1.length := by rw [moveN_len]; exact HP.out.q.lt _ (List.getElem_mem hlt)
      have hl' : (moveN p.nodes p.now p.qs p.js n).1.length ≤ 24 := by rw [moveN_len]; exact hl
      rcases Ns.of H1.out.qr with ⟨_, he⟩ | ⟨b, cap, hv, hcap, hb, hcell⟩
      · rw [show p.qs = [] from he] at hlt; simp at hlt
      cases hv
      have l0 := hcell n hlt
      change wz.cell? ⟨b, n, none⟩ = some (.int .i64 (p.qs[n] : Int)) at l0
      clear hcell
      generalize moveN p.nodes p.now p.qs p.js n = Y at *
      obtain ⟨X, mb⟩ := Y
      dsimp only at *
      generalize p.qs[n] = id at *
      obtain ⟨g, cp, rfl⟩ := H1.out.jform (id := id) hqn
      go_wp2_with fail
      refine (plEarliest s gv p.nodes p.now _ _ X id wz H1.out.pl (Ps.of H1.out.jr) (by show X.length ≤ 1000; omega) HN.pj hqn hn8 n1 n2).mono ?_
      rintro e x1 ⟨rfl, hB1⟩
      have H2 : Hid (SM D s (p.withJ X) gv (.slice (some ⟨g, 0, none⟩) X.length cp) (.slice (some ⟨b, 0, none⟩) p.qs.length c) x1) := H1.out.below hB1
      have K2 : Hid (Keep D w x1) := K1.out.trans (H1.out.keep hB1)
      have c3 := H2.out.pl.c 3
      obtain ⟨_, _, _, _, l4, _⟩ := H2.out.jc (k := id) hqn
      have z4 := H2.out.jr.frozenAt (id * 6 + 4)
      change x1.cell? ⟨s, 3, none⟩ = some (.slice (some ⟨g, 0, none⟩) X.length cp) at c3
      change x1.cell? ⟨g, id * 6 + 4, none⟩ = some (.int .i64 X[id].sa) at l4
      have HG : Hid (X.getD id pj0 = X[id]) := getD_get hqn
      rw [HG.out] at HSU
      clear hB1 l0 hb H1 K1
      have HT : Hid (SM D s (p.withJ (X.set id (X[id].toSa (earlF X p.nodes id p.now)))) gv (.slice (some ⟨g, 0, none⟩) X.length cp) (.slice (some ⟨b, 0, none⟩) p.qs.length c) (x1.setCell ⟨g, id * 6 + 4, none⟩ (.int .i64 (earlF X p.nodes id p.now)))) := H2.out.setJ id 4 (by omega) (.int .i64 (earlF X p.nodes id p.now)) (X[id].toSa (earlF X p.nodes id p.now)) hqn rfl
      have KT : Hid (Keep D w (x1.setCell ⟨g, id * 6 + 4, none⟩ (.int .i64 (earlF X p.nodes id p.now)))) := K2.out.setCell (H2.out.dj g rfl) _
      generalize X[id].toSa (earlF X p.nodes id p.now) = j1 at *
      generalize earlF X p.nodes id p.now = t at *
      generalize X[id].sa = t0 at *
      by_cases hs : t < t0
      · rw [if_pos hs] at HSU
        go_wp2_with fail
        go_roundg (p.qs.length - (n + 1) + 1)
        case measure => omega
        case rel => exact ⟨n + 1, _, rfl, by omega, rfl, by go_num, by rw [HSU.out], by rw [HSU.out]; exact HT, KT⟩
      · rw [if_neg hs] at HSU
        go_wp2_with fail
        go_roundg (p.qs.length - (n + 1) + 1)
        case measure => omega
        case rel => exact ⟨n + 1, _, rfl, by omega, rfl, by go_num, by rw [HSU.out], by rw [HSU.out]; exact H2, K2⟩
    · have hlt' : ¬ (n : Int) < (p.qs.length : Int) := by omega
      have hnl : n = p.qs.length := by omega
      subst hnl
      go_wp2_with fail
      go_ret
      exact ⟨rfl, H1.out, K1.out⟩
end Go.Proofs.Ytanknpmojblmcab

/-
  Package pool: moveUp, giveUp.
-/
set_option linter.unusedSimpArgs false
set_option linter.unusedVariables false
namespace Go.Proofs.Ytanknpmojblmcab
open Go.RowKit

variable {D : Nat → Prop} {s : Nat} {p : PS} {gv jv qv : Value} {w w' : World}

set_option maxRecDepth 100000 in
set_option maxHeartbeats 1000000 in
theorem plMoveUp (h : SM D s p gv jv qv w) (hP : POK p) :
    Calls Try.prog 40 #[.pointer (some ⟨s, 1, none⟩)] w fun e w' => e = .returned (.tuple #[]) ∧ SM D s (moveUpF p) gv jv qv w' ∧ Keep D w w' := by
  have HP : Hid (POK p) := hP
  have HS : Hid (SM D s p gv jv qv w) := h
  clear h hP
  obtain ⟨F, hF⟩ : ∃ F, F = moveF p.nodes p.now p.qs (sumS p.js + 1) p.js := ⟨_, rfl⟩
  have HF : Hid (moveUpF p = p.withJ F) := by show _ = _; rw [hF]; rfl
  go_enter Try.func40, Try.ntmps40
  go_wp2_with fail
  go_loopg [2] (sumS p.js + 2) (fun r x wr => ∃ (b : Bool) (X : List PJ) (wz : World), wz = wr ∧ x = .bool b ∧ r = (if b = true then sumS X + 2 else 1) ∧ Hid (POK (p.withJ X)) ∧ Hid (SM D s (p.withJ X) gv jv qv wz) ∧ Hid (Keep D w wz) ∧ Hid (if b = true then ∃ k, sumS X ≤ k ∧ F = moveF p.nodes p.now p.qs (k + 1) X else F = X))
  case atStart => exact ⟨true, p.js, _, rfl, rfl, rfl, HP, HS, Keep.refl _ _, ⟨sumS p.js, Nat.le_refl _, hF⟩⟩
  case round =>
    obtain ⟨b, X, wz, rfl, rfl, rfl, H1, H2, K2, HE⟩ := hrel
    clear hF
    cases b with
    | true =>
      go_wp2_with fail
      refine (plMoveEach H2.out H1.out).mono ?_
      rintro e x1 ⟨he, h3, k3⟩
      change e = .returned (.bool (moveN p.nodes p.now p.qs X p.qs.length).2) at he
      have H3 : Hid (SM D s (p.withJ (moveN p.nodes p.now p.qs X p.qs.length).1) gv jv qv x1) := h3
      have K3 : Hid (Keep D w x1) := K2.out.trans k3
      have HO : Hid (POK (p.withJ (moveN p.nodes p.now p.qs X p.qs.length).1)) := ⟨moveN_ok H1.out.n H1.out.q.lt _ (Nat.le_refl _), moveN_qok _ _ H1.out.q _ (Nat.le_refl _)⟩
      have hsum := (moveN_sum H1.out.n H1.out.q.lt p.qs.length (Nat.le_refl _)).2
      change (moveN p.nodes p.now p.qs X p.qs.length).2 = true → sumS (moveN p.nodes p.now p.qs X p.qs.length).1 < sumS X at hsum
      have HE' := HE.out
      simp only [if_true] at HE'
      obtain ⟨k, hk, hF⟩ := HE'
      have HF2 : Hid (F = if (moveN p.nodes p.now p.qs X p.qs.length).2 = true then moveF p.nodes p.now p.qs k (moveN p.nodes p.now p.qs X p.qs.length).1 else (moveN p.nodes p.now p.qs X p.qs.length).1) := hF
      clear hF h3 k3 HE
      obtain ⟨Y, mb, hY⟩ : ∃ Y mb, moveN p.nodes p.now p.qs X p.qs.length = (Y, mb) := ⟨_, _, rfl⟩
      rw [hY] at H3 HO hsum HF2 he
      subst he
      clear hY
      go_wp2_with fail
      go_roundg (if mb = true then sumS Y + 2 else 1)
      case measure =>
        cases mb with
        | true => have := hsum rfl; simp; omega
        | false => simp
      case rel =>
        refine ⟨mb, Y, _, rfl, rfl, rfl, HO, H3, K3, ?_⟩
        cases mb with
        | true =>
          have hs := hsum rfl
          have hf := HF2.out
          simp only [if_true] at hf
          show ∃ k, sumS Y ≤ k ∧ F = moveF p.nodes p.now p.qs (k + 1) Y
          exact ⟨k - 1, by omega, by rw [hf, show k - 1 + 1 = k from by omega]⟩
        | false => exact HF2.out
    | false =>
      go_wp2_with fail
      go_end0
      have e : F = X := HE.out
      exact ⟨rfl, by rw [HF.out, e]; exact H2.out, K2.out⟩

set_option maxRecDepth 100000 in
set_option maxHeartbeats 1000000 in
theorem plGiveUp (h : SM D s p gv jv qv w) (hP : POK p) :
    Calls Try.prog 39 #[.pointer (some ⟨s, 1, none⟩)] w fun e w' => e = .returned (.tuple #[]) ∧ SM D s (giveUpF p) gv jv qv w' ∧ Keep D w w' := by
  have HP : Hid (POK p) := hP
  have HS : Hid (SM D s p gv jv qv w) := h
  have hln := hP.n.ln
  clear h hP
  obtain ⟨F, hF⟩ : ∃ F, F = giveF p.now (cntH p.js + 1) p.js := ⟨_, rfl⟩
  have HF : Hid (giveUpF p = p.withJ F) := by show _ = _; rw [hF]; rfl
  go_enter Try.func39, Try.ntmps39
  go_wp2_with fail
  go_loopg [2] (cntH p.js + 2) (fun r x wr => ∃ (b : Bool) (X : List PJ) (wz : World), wz = wr ∧ x = .bool b ∧ r = (if b = true then cntH X + 2 else 1) ∧ X.length = p.js.length ∧ Hid (POK (p.withJ X)) ∧ Hid (SM D s (p.withJ X) gv jv qv wz) ∧ Hid (Keep D w wz) ∧ Hid (if b = true then ∃ k, cntH X ≤ k ∧ F = giveF p.now (k + 1) X else F = X))
  case atStart => exact ⟨true, p.js, _, rfl, rfl, rfl, rfl, HP, HS, Keep.refl _ _, ⟨cntH p.js, Nat.le_refl _, hF⟩⟩
  case round =>
    obtain ⟨b, X, wz, rfl, rfl, rfl, hXl, H1, H2, K2, HE⟩ := hrel
    clear hF
    cases b with
    | true =>
      obtain ⟨a, c, rfl⟩ := (Ps.of H2.out.jr).form
      have c3 := H2.out.pl.c 3
      change wz.cell? ⟨s, 3, none⟩ = some (.slice a X.length c) at c3
      go_wp2_with fail
      have HL : Hid (∀ n, n ≤ X.length → POK (p.withJ (giveN p.now X n).1) ∧ (giveN p.now X n).1.length = X.length) := fun n hn => ⟨⟨giveN_ok H1.out.n n hn, giveN_qok _ H1.out.q n hn⟩, giveN_len _ _ _⟩
      go_loopg [2, 10] (X.length + 1) (fun r mv x wr => ∃ (n : Nat) (wy : World), wy = wr ∧ n ≤ X.length ∧ r = X.length - n + 1 ∧ x = .int .i64 (n : Int) ∧ mv = .bool (giveN p.now X n).2 ∧ Hid (SM D s (p.withJ (giveN p.now X n).1) gv (.slice a X.length c) qv wy) ∧ Hid (Keep D w wy))
      case atStart => exact ⟨0, _, rfl, Nat.zero_le _, rfl, rfl, rfl, H2, K2⟩
      case round =>
        obtain ⟨n, wy, rfl, hn, rfl, rfl, rfl, H3, K3⟩ := hrel
        by_cases hlt : n < X.length
        · have hlt' : (n : Int) < (X.length : Int) := by omega
          obtain ⟨hok, hle⟩ := HL.out n hn
          have HSU : Hid (giveN p.now X (n + 1) = if heldB (giveN p.now X n).1 n 2 = true then ((giveN p.now X n).1.set n ((((giveN p.now X n).1.getD n pj0).toSt 6).toEn p.now), true) else giveN p.now X n) := rfl
          generalize giveN p.now X n = Y at *
          obtain ⟨Y, mb⟩ := Y
          dsimp only at *
          have hnY : n < Y.length := by omega
          have HOK : Hid (POK (p.withJ Y)) := hok
          clear hok
          go_wp2_with fail
          refine (plIsHeld H3.out HOK.out.n n 2 hnY (by omega)).mono ?_
          rintro e x1 ⟨he, hB1⟩
          change e = .returned (.bool (heldB Y n 2)) at he
          have H4 : Hid (SM D s (p.withJ Y) gv (.slice a X.length c) qv x1) := H3.out.below hB1
          have K4 : Hid (Keep D w x1) := K3.out.trans (H3.out.keep hB1)
          clear hB1 H3 K3
          have HG : Hid (Y.getD n pj0 = Y[n]) := getD_get hnY
          cases hh : heldB Y n 2 with
          | true =>
            rw [hh] at he
            subst he
            rw [hh, if_pos rfl, HG.out] at HSU
            go_wp2_with fail
            refine (plEnd H4.out n 6 hnY (by show Y.length ≤ 24; omega)).mono ?_
            rintro e x2 ⟨rfl, h5, k5⟩
            have H5 : Hid (SM D s (p.withJ (Y.set n ((Y[n].toSt 6).toEn p.now))) gv (.slice a X.length c) qv x2) := h5
            have K5 : Hid (Keep D w x2) := K4.out.trans k5
            clear h5 k5
            go_wp2_with fail
            go_roundg (X.length - (n + 1) + 1)
            case measure => omega
            case rel => exact ⟨n + 1, _, rfl, by omega, rfl, by go_num, by rw [HSU.out], by rw [HSU.out]; exact H5, K5⟩
          | false =>
            rw [hh] at he
            subst he
            rw [hh, if_neg (by decide)] at HSU
            go_wp2_with fail
            go_roundg (X.length - (n + 1) + 1)
            case measure => omega
            case rel => exact ⟨n + 1, _, rfl, by omega, rfl, by go_num, by rw [HSU.out], by rw [HSU.out]; exact H4, K4⟩
        · have hlt' : ¬ (n : Int) < (X.length : Int) := by omega
          have hnl : n = X.length := by omega
          subst hnl
          have HO := (HL.out X.length (Nat.le_refl _))
          have hcnt := (giveN_cnt p.now X X.length (Nat.le_refl _)).2
          have HE' := HE.out
          simp only [if_true] at HE'
          obtain ⟨k, hk, hF⟩ := HE'
          have HF2 : Hid (F = if (giveN p.now X X.length).2 = true then giveF p.now k (giveN p.now X X.length).1 else (giveN p.now X X.length).1) := hF
          obtain ⟨Y, mb, hY⟩ : ∃ Y mb, giveN p.now X X.length = (Y, mb) := ⟨_, _, rfl⟩
          rw [hY] at H3 HO hcnt HF2 ⊢
          have HO1 : Hid (POK (p.withJ Y)) := HO.1
          have hYl := HO.2
          clear hY hF HE HO
          go_wp2_with fail
          go_roundg (if mb = true then cntH Y + 2 else 1)
          case measure =>
            cases mb with
            | true => have := hcnt rfl; simp; omega
            | false => simp
          case rel =>
            refine ⟨mb, Y, _, rfl, rfl, rfl, by omega, HO1, H3, K3, ?_⟩
            cases mb with
            | true =>
              have hs := hcnt rfl
              have hf := HF2.out
              simp only [if_true] at hf
              show ∃ k, cntH Y ≤ k ∧ F = giveF p.now (k + 1) Y
              exact ⟨k - 1, by omega, by rw [hf, show k - 1 + 1 = k from by omega]⟩
            | false => exact HF2.out
    | false =>
      go_wp2_with fail
      go_end0
      have e : F = X := HE.out
      exact ⟨rfl, by rw [HF.out, e]; exact H2.out, K2.out⟩
end Go.Proofs.Ytanknpmojblmcab

/-
  Package pool: queueUp, begin.
-/
set_option linter.unusedSimpArgs false
set_option linter.unusedVariables false
namespace Go.Proofs.Ytanknpmojblmcab
open Go.RowKit

variable {D : Nat → Prop} {s : Nat} {p : PS} {gv jv qv : Value} {w w' : World}

theorem ownsRow_frozen {w : World} {base : Nat} {e : TypeId} {size g n cap m : Nat} {xs : List Value} (h : w.ownsRow base e size (.slice (some ⟨g, 0, none⟩) n cap) m xs) (j : Nat) : w.frozen? ⟨g, j, none⟩ = false := by
  rcases h.2 with ⟨h', _⟩ | ⟨g', cap', cur, h', _, hg, _⟩
  · simp at h'
  · simp only [Value.slice.injEq, Option.some.injEq, Addr.mk.injEq, and_true, true_and] at h'
    obtain ⟨rfl, _⟩ := h'
    exact whole_frozen hg j

set_option maxRecDepth 100000 in
set_option maxHeartbeats 1000000 in
theorem plQueueUp (h : SM D s p gv jv qv w) (hP : POK p) :
    Calls Try.prog 41 #[.pointer (some ⟨s, 1, none⟩)] w fun e w' => e = .returned (.tuple #[]) ∧ (∃ qv', SM D s (queueUpF p) gv jv qv' w') ∧ Keep D w w' := by
  obtain ⟨i0, hI0, hz0, hz1, hz2⟩ := info_parts infoIntL
  have HP : Hid (POK p) := hP
  have HS : Hid (SM D s p gv jv qv w) := h
  have hln := hP.n.ln
  have hql := hP.ql
  have hn8 := hP.n.nd; have n1 := hP.n.lo; have n2 := hP.n.hi
  clear h hP
  obtain ⟨a, c, rfl⟩ := (Ps.of HS.out.jr).form
  have c3 := HS.out.pl.c 3
  change w.cell? ⟨s, 3, none⟩ = some (.slice a p.js.length c) at c3
  have HL : Hid (∀ n, n ≤ p.js.length → NOK (p.withJ (queN p n).1) ∧ QOK (queN p n).1 (queN p n).2 ∧ (queN p n).1.length = p.js.length) := fun n hn => ⟨(queN_ok HP.out.n HP.out.q n hn).1, (queN_ok HP.out.n HP.out.q n hn).2, (queN_len p n).1⟩
  go_enter Try.func41, Try.ntmps41
  go_wp2_with fail
  go_loopg [9] (p.js.length + 1) (fun r x wr => ∃ (n : Nat) (qx : Value) (wz : World), wz = wr ∧ n ≤ p.js.length ∧ r = p.js.length - n + 1 ∧ x = .int .i64 (n : Int) ∧ Hid (SM D s { p with js := (queN p n).1, qs := (queN p n).2 } gv (.slice a p.js.length c) qx wz) ∧ Hid (Keep D w wz))
  case atStart => exact ⟨0, _, _, rfl, Nat.zero_le _, rfl, rfl, HS, Keep.refl _ _⟩
  case round =>
    obtain ⟨n, qx, wz, rfl, hn, rfl, rfl, H1, K1⟩ := hrel
    by_cases hlt : n < p.js.length
    · have hlt' : (n : Int) < (p.js.length : Int) := by omega
      obtain ⟨hnk, hqk, hle⟩ := HL.out n hn
      have HSU : Hid (queN p (n + 1) = if heldB (queN p n).1 n 1 = true then ((queN p n).1.set n ((((queN p n).1.getD n pj0).toSt 1).toSa (earlF (queN p n).1 p.nodes n p.now)), (queN p n).2 ++ [n]) else queN p n) := rfl
      generalize queN p n = Y at *
      obtain ⟨Y, Q⟩ := Y
      dsimp only at *
      have hnY : n < Y.length := by omega
      have HNK : Hid (NOK { p with js := Y, qs := Q }) := ⟨hnk.js, hnk.ln, hnk.nd, hnk.lo, hnk.hi, hnk.sa, hnk.ov⟩
      have hQl : Q.length ≤ 24 := hqk.ln (by omega)
      clear hnk hqk
      go_wp2_with fail
      refine (plIsHeld H1.out HNK.out n 1 hnY (by omega)).mono ?_
      rintro e x1 ⟨he, hB1⟩
      change e = .returned (.bool (heldB Y n 1)) at he
      have H4 : Hid (SM D s { p with js := Y, qs := Q } gv (.slice a p.js.length c) qx x1) := H1.out.below hB1
      have K4 : Hid (Keep D w x1) := K1.out.trans (H1.out.keep hB1)
      clear hB1 H1 K1
      have HG : Hid (Y.getD n pj0 = Y[n]) := getD_get hnY
      cases hh : heldB Y n 1 with
      | true =>
        rw [hh] at he
        subst he
        rw [hh, if_pos rfl, HG.out] at HSU
        go_wp2_with fail
        refine (plEarliest s gv p.nodes p.now _ _ Y n x1 H4.out.pl (Ps.of H4.out.jr) (by omega) HNK.out.pj hnY hn8 n1 n2).mono ?_
        rintro e x2 ⟨rfl, hB2⟩
        have H5 : Hid (SM D s { p with js := Y, qs := Q } gv (.slice a p.js.length c) qx x2) := H4.out.below hB2
        have K5 : Hid (Keep D w x2) := K4.out.trans (H4.out.keep hB2)
        clear hB2 H4 K4
        obtain ⟨g, cp, hv⟩ := H5.out.jform (id := n) hnY
        change Value.slice a p.js.length c = .slice (some ⟨g, 0, none⟩) Y.length cp at hv
        rw [hle] at hv
        cases hv
        have c3' := H5.out.pl.c 3
        change x2.cell? ⟨s, 3, none⟩ = some (.slice (some ⟨g, 0, none⟩) p.js.length c) at c3'
        obtain ⟨_, l1, _, _, l4, _⟩ := H5.out.jc (k := n) hnY
        have z1 := ownsRow_frozen H5.out.jr (n * 6 + 1)
        change x2.cell? ⟨g, n * 6 + 1, none⟩ = some (.int .i64 (Y[n].st : Int)) at l1
        have z4 := ownsRow_frozen H5.out.jr (n * 6 + 4)
        change x2.cell? ⟨g, n * 6 + 4, none⟩ = some (.int .i64 Y[n].sa) at l4
        have H6 := (H5.out.setJ n 1 (by omega) (.int .i64 1) (Y[n].toSt 1) hnY rfl).setJ n 4 (by omega) (.int .i64 (earlF Y p.nodes n p.now)) ((Y[n].toSt 1).toSa (earlF Y p.nodes n p.now)) (by simpa using hnY) (by simp [pjC, PJ.toSt, PJ.toSa])
        have K6 : Hid (Keep D w ((x2.setCell ⟨g, n * 6 + 1, none⟩ (.int .i64 1)).setCell ⟨g, n * 6 + 1 + 3, none⟩ (.int .i64 (earlF Y p.nodes n p.now)))) := (K5.out.setCell (H5.out.dj g rfl) _).setCell (H5.out.dj g rfl) _
        simp only [List.set_set] at H6
        have H6' : SM D s { p with js := Y.set n ((Y[n].toSt 1).toSa (earlF Y p.nodes n p.now)), qs := Q } gv (.slice (some ⟨g, 0, none⟩) p.js.length c) qx ((x2.setCell ⟨g, n * 6 + 1, none⟩ (.int .i64 1)).setCell ⟨g, n * 6 + 1 + 3, none⟩ (.int .i64 (earlF Y p.nodes n p.now))) := H6
        clear H6 H5 K5
        obtain ⟨qa, qc, rfl⟩ := (Ns.of H6'.qr).form
        have c4 := H6'.pl.c 4
        change World.cell? _ ⟨s, 4, none⟩ = some (.slice qa Q.length qc) at c4
        have H7 : Hid (SM D s { p with js := Y.set n ((Y[n].toSt 1).toSa (earlF Y p.nodes n p.now)), qs := Q } gv (.slice (some ⟨g, 0, none⟩) p.js.length c) (.slice qa Q.length qc) ((x2.setCell ⟨g, n * 6 + 1, none⟩ (.int .i64 1)).setCell ⟨g, n * 6 + 1 + 3, none⟩ (.int .i64 (earlF Y p.nodes n p.now)))) := H6'
        have hsz := H6'.pl.lt
        clear H6'
        have hqr : ((x2.setCell ⟨g, n * 6 + 1, none⟩ (.int .i64 1)).setCell ⟨g, n * 6 + 1 + 3, none⟩ (.int .i64 (earlF Y p.nodes n p.now))).ownsRow 0 3 1 (.slice qa Q.length qc) Q.length (Q.map iV) := H7.out.qr
        have hw6 : ((x2.setCell ⟨g, n * 6 + 1, none⟩ (.int .i64 1)).setCell ⟨g, n * 6 + 1 + 3, none⟩ (.int .i64 (earlF Y p.nodes n p.now))).heap.size = x2.heap.size := by simp
        go_wp2_with (at_builtin; refine wpList_append_lies _ rfl _ _ 28 rfl 0 3 i0 (.int .i64 0) 1 8 Try.underlying28 hI0 hz0 hz1 hz2 rfl (by decide) _ Q.length _ rfl (hqr.alloc _) ⟨x2.heap.size, 0, none⟩ 1 1 [.int .i64 (n : Int)] rfl rfl ?c1 ?c2 (by decide) ?c3 ?c4 ?c5 _ rfl ?_)
        case c1 =>
          have q := whole_new ((x2.setCell ⟨g, n * 6 + 1, none⟩ (.int .i64 1)).setCell ⟨g, n * 6 + 1 + 3, none⟩ (.int .i64 (earlF Y p.nodes n p.now))) (.cells #[.int .i64 (n : Int)] 3 (0, 0))
          rw [hw6] at q
          exact World.news_of_block (cs := #[.int .i64 (n : Int)]) (t := 3) (fr := (0, 0)) q
        case c2 => first | rfl | (intro u hu; simp at hu; subst hu; rfl)
        case c3 => unfold maxLen; omega
        case c4 => omega
        case c5 => first | omega | (simp; omega) | simp
        intro g4 cap4 x4 hown4 hgrow4 hat4 hlt4
        have H8 := H7.out.below ((Below.refl _ _).alloc (Nat.le_refl _) (.cells #[.int .i64 (n : Int)] 3))
        have K8 := K6.out.trans (Keep.below ((Below.refl _ _).alloc (Nat.le_refl _) (.cells #[.int .i64 (n : Int)] 3)) H7.out.dom)
        have hD : ∀ b, (Value.slice (some ⟨g4, 0, none⟩) (Q.length + 1) cap4).ownBlock = some b → D b := by
          intro b hb
          simp [Value.ownBlock] at hb
          subst hb
          rcases hat4 with h9 | h9
          · exact H8.dq _ h9
          · exact H8.dom _ (by simp; omega)
        have H9 := H8.pushQ hgrow4 hown4 hD
        have hs4 : x4.heap[s]? = _ := (hgrow4.block s H8.pl.lt (fun e => H8.qne e.symm)).trans H8.pl
        have z9 := whole_frozen hs4 4
        have c9 := whole_cell hs4 4
        simp at c9
        have K9 : Hid (Keep D w (x4.setCell ⟨s, 4, none⟩ (.slice (some ⟨g4, 0, none⟩) (Q.length + 1) cap4))) := (K8.grown hgrow4 (fun k e => H8.dq k e) H8.dom).setCell H8.ds _
        have H10 : Hid (SM D s { p with js := Y.set n ((Y[n].toSt 1).toSa (earlF Y p.nodes n p.now)), qs := Q ++ [n] } gv (.slice (some ⟨g, 0, none⟩) p.js.length c) (.slice (some ⟨g4, 0, none⟩) (Q.length + 1) cap4) (x4.setCell ⟨s, 4, none⟩ (.slice (some ⟨g4, 0, none⟩) (Q.length + 1) cap4))) := H9
        clear H8 K8 hD H9 hs4 hgrow4 hown4 hat4 hqr hw6 H7 K6 c4 hsz
        go_wp2_with fail
        go_roundg (p.js.length - (n + 1) + 1)
        case measure => omega
        case rel => exact ⟨n + 1, _, _, rfl, by omega, rfl, by go_num, by rw [HSU.out]; exact H10, K9⟩
      | false =>
        rw [hh] at he
        subst he
        rw [hh, if_neg (by decide)] at HSU
        go_wp2_with fail
        go_roundg (p.js.length - (n + 1) + 1)
        case measure => omega
        case rel => exact ⟨n + 1, qx, _, rfl, by omega, rfl, by go_num, by rw [HSU.out]; exact H4, K4⟩
    · have hlt' : ¬ (n : Int) < (p.js.length : Int) := by omega
      have hnl : n = p.js.length := by omega
      subst hnl
      go_wp2_with fail
      go_end0
      exact ⟨rfl, ⟨qx, H1.out⟩, K1.out⟩
end Go.Proofs.Ytanknpmojblmcab

/-
  Package pool: begin, leave.
-/
set_option linter.unusedSimpArgs false
set_option linter.unusedVariables false
namespace Go.Proofs.Ytanknpmojblmcab
open Go.RowKit

variable {D : Nat → Prop} {s : Nat} {p : PS} {gv jv qv : Value} {w w' : World}

/-- A row of another's grows. -/
theorem SM.grow {row : Option Nat} (h : SM D s p gv jv qv w) (g : w.grownBy w' row) (h1 : row ≠ some s) (h2 : ∀ b, gv.ownBlock = some b → row ≠ some b) (h3 : ∀ b, jv.ownBlock = some b → row ≠ some b) (h4 : ∀ b, qv.ownBlock = some b → row ≠ some b) : SM D s p gv jv qv w' :=
  ⟨(g.block s h.pl.lt (Ne.symm h1)).trans h.pl, owns_same h.gr (fun b hb => g.block b (h.gr.lt b hb).2 (Ne.symm (h2 b hb))), owns_same h.jr (fun b hb => g.block b (h.jr.lt b hb).2 (Ne.symm (h3 b hb))), owns_same h.qr (fun b hb => g.block b (h.qr.lt b hb).2 (Ne.symm (h4 b hb))), h.ds, h.dg, h.dj, h.dq, fun k hk => h.dom k (Nat.le_trans g.size hk)⟩
/-- A row that came later grows. -/
theorem SM.growN {n : Nat} {row : Option Nat} {p0 : PS} {x : World} (h0 : SM D s p0 gv jv qv x) (h : SM D s p gv jv qv w) (g : w.grownBy w' row) (hr : ∀ b, row = some b → x.heap.size ≤ b) : SM D s p gv jv qv w' :=
  h.grow g (fun e => by have := hr _ e; have := h0.pl.lt; omega) (fun b hb e => by have := hr _ e; have := (h0.gr.lt b hb).2; omega) (fun b hb e => by have := hr _ e; have := (h0.jr.lt b hb).2; omega) (fun b hb e => by have := hr _ e; have := (h0.qr.lt b hb).2; omega)

set_option maxRecDepth 100000 in
set_option maxHeartbeats 1000000 in
theorem plBegin (h : SM D s p gv jv qv w) (hP : POK p) :
    Calls Try.prog 42 #[.pointer (some ⟨s, 1, none⟩)] w fun e w' => e = .returned (.tuple #[]) ∧ (∃ qv', SM D s (beginF p) gv jv qv' w') ∧ Keep D w w' := by
  obtain ⟨i0, hI0, hz0, hz1, hz2⟩ := info_parts infoIntL
  have HP : Hid (POK p) := hP
  have hl := hP.n.ln
  have hql := hP.ql
  clear hP
  obtain ⟨a, c, rfl⟩ := (Ns.of h.qr).form
  have HS : Hid (SM D s p gv jv (.slice a p.qs.length c) w) := h
  have hdom : Hid (∀ k, w.heap.size ≤ k → D k) := h.dom
  have c4 := h.pl.c 4
  simp at c4
  clear h
  go_enter Try.func42, Try.ntmps42
  go_wp2_with fail
  go_loopg [2, 10] (p.qs.length + 1) (fun r rv x wr => ∃ (n : Nat) (wz : World), wz = wr ∧ n ≤ p.qs.length ∧ r = p.qs.length - n + 1 ∧ x = .int .i64 (n : Int) ∧ Hid (wz.ownsRow w.heap.size 3 1 rv (begN p.now p.qs p.js n).2.length ((begN p.now p.qs p.js n).2.map iV)) ∧ Hid (SM D s (p.withJ (begN p.now p.qs p.js n).1) gv jv (.slice a p.qs.length c) wz) ∧ Hid (Keep D w wz))
  case atStart => exact ⟨0, _, rfl, Nat.zero_le _, rfl, rfl, World.ownsRow_nil _ _ _ _, HS, Keep.refl _ _⟩
  case round =>
    obtain ⟨n, wz, rfl, hn, rfl, rfl, HR, H1, K1⟩ := hrel
    obtain ⟨ra, rc, rfl⟩ := (Ns.of HR.out).form
    by_cases hlt : n < p.qs.length
    · have hlt' : (n : Int) < (p.qs.length : Int) := by omega
      have HSU : Hid (begN p.now p.qs p.js (n + 1) = if ((begN p.now p.qs p.js n).1.getD p.qs[n] pj0).sa = p.now then ((begN p.now p.qs p.js n).1.set p.qs[n] (((begN p.now p.qs p.js n).1.getD p.qs[n] pj0).toSt 2), (begN p.now p.qs p.js n).2) else ((begN p.now p.qs p.js n).1, (begN p.now p.qs p.js n).2 ++ [p.qs[n]])) := by
        show _ = _
        rw [← getD_q hlt]; rfl
      have hbl := begN_len p.now p.qs p.js n
      have hqn : p.qs[n] < (begN p.now p.qs p.js n).1.length := by rw [hbl.1]; exact HP.out.q.lt _ (List.getElem_mem hlt)
      rcases Ns.of H1.out.qr with ⟨_, he⟩ | ⟨b, cap, hv, hcap, hb, hcell⟩
      · rw [show p.qs = [] from he] at hlt; simp at hlt
      cases hv
      have l0 := hcell n hlt
      change wz.cell? ⟨b, n, none⟩ = some (.int .i64 (p.qs[n] : Int)) at l0
      clear hcell
      generalize begN p.now p.qs p.js n = Y at *
      obtain ⟨X, R⟩ := Y
      dsimp only at *
      generalize p.qs[n] = id at *
      have hXl : X.length = p.js.length := hbl.1
      have hRl : R.length ≤ 24 := by omega
      obtain ⟨g, cp, hv⟩ := H1.out.jform (id := id) hqn
      change jv = .slice (some ⟨g, 0, none⟩) X.length cp at hv
      subst hv
      have c2 := H1.out.pl.c 2
      have c3 := H1.out.pl.c 3
      change wz.cell? ⟨s, 2, none⟩ = some (.int .i64 p.now) at c2
      change wz.cell? ⟨s, 3, none⟩ = some (.slice (some ⟨g, 0, none⟩) X.length cp) at c3
      obtain ⟨_, l1, _, _, l4, _⟩ := H1.out.jc (k := id) hqn
      have z1 := ownsRow_frozen H1.out.jr (id * 6 + 1)
      change wz.cell? ⟨g, id * 6 + 1, none⟩ = some (.int .i64 (X[id].st : Int)) at l1
      change wz.cell? ⟨g, id * 6 + 4, none⟩ = some (.int .i64 X[id].sa) at l4
      have HG : Hid (X.getD id pj0 = X[id]) := getD_get hqn
      rw [HG.out] at HSU
      by_cases hs : X[id].sa = p.now
      · rw [if_pos hs] at HSU
        rw [hs] at l4
        go_wp2_with fail
        go_region
        have H1d : Hid (SM D s (p.withJ X) gv (.slice (some ⟨g, 0, none⟩) X.length cp) (.slice (some ⟨b, 0, none⟩) p.qs.length c) wz.drew) := H1.out.below (Below.refl _ _).drew
        have K1d : Hid (Keep D w wz.drew) := K1.out.trans (H1.out.keep (Below.refl _ _).drew)
        have HRd : Hid (wz.drew.ownsRow w.heap.size 3 1 (.slice ra R.length rc) R.length (R.map iV)) := HR.out.drew
        clear H1 K1 HR c2 c3 l1 l4 z1 l0 hb
        generalize wz.drew = wy at *
        have c3 := H1d.out.pl.c 3
        change wy.cell? ⟨s, 3, none⟩ = some (.slice (some ⟨g, 0, none⟩) X.length cp) at c3
        obtain ⟨_, l1, _, _, _, _⟩ := H1d.out.jc (k := id) hqn
        have z1 := ownsRow_frozen H1d.out.jr (id * 6 + 1)
        change wy.cell? ⟨g, id * 6 + 1, none⟩ = some (.int .i64 (X[id].st : Int)) at l1
        have HT : Hid (SM D s (p.withJ (X.set id (X[id].toSt 2))) gv (.slice (some ⟨g, 0, none⟩) X.length cp) (.slice (some ⟨b, 0, none⟩) p.qs.length c) (wy.setCell ⟨g, id * 6 + 1, none⟩ (.int .i64 2))) := H1d.out.setJ id 1 (by omega) (.int .i64 2) (X[id].toSt 2) hqn rfl
        have KT : Hid (Keep D w (wy.setCell ⟨g, id * 6 + 1, none⟩ (.int .i64 2))) := K1d.out.setCell (H1d.out.dj g rfl) _
        have HRT : Hid ((wy.setCell ⟨g, id * 6 + 1, none⟩ (.int .i64 2)).ownsRow w.heap.size 3 1 (.slice ra R.length rc) R.length (R.map iV)) := ownsRow_setCell_other HRd.out (a := ⟨g, id * 6 + 1, none⟩) (rows_ne HRd.out H1d.out.jr (by decide) g rfl) _
        have hgz : g < wy.heap.size := (H1d.out.jr.lt g rfl).2
        go_wp2_with fail
        go_roundg (p.qs.length - (n + 1) + 1)
        case measure => omega
        case rel => exact ⟨n + 1, _, rfl, by omega, rfl, by go_num, by rw [HSU.out]; exact HRT, by rw [HSU.out]; exact HT, KT⟩
      · rw [if_neg hs] at HSU
        have hs' : (X[id].sa == p.now) = false := by simpa using hs
        go_wp2_with fail
        go_region
        have H1d : Hid (SM D s (p.withJ X) gv (.slice (some ⟨g, 0, none⟩) X.length cp) (.slice (some ⟨b, 0, none⟩) p.qs.length c) wz.drew) := H1.out.below (Below.refl _ _).drew
        have K1d : Hid (Keep D w wz.drew) := K1.out.trans (H1.out.keep (Below.refl _ _).drew)
        have HRd : Hid (wz.drew.ownsRow w.heap.size 3 1 (.slice ra R.length rc) R.length (R.map iV)) := HR.out.drew
        clear H1 K1 HR c2 c3 l1 l4 z1 l0 hb
        generalize wz.drew = wy at *
        have c3 := H1d.out.pl.c 3
        change wy.cell? ⟨s, 3, none⟩ = some (.slice (some ⟨g, 0, none⟩) X.length cp) at c3
        obtain ⟨_, l1, _, _, _, _⟩ := H1d.out.jc (k := id) hqn
        have z1 := ownsRow_frozen H1d.out.jr (id * 6 + 1)
        change wy.cell? ⟨g, id * 6 + 1, none⟩ = some (.int .i64 (X[id].st : Int)) at l1
        have hown := HRd.out
        have hsz := K1d.out.size
        go_wp2_with (at_builtin; refine wpList_append_lies _ rfl _ _ 28 rfl w.heap.size 3 i0 (.int .i64 0) 1 8 Try.underlying28 hI0 hz0 hz1 hz2 rfl (by decide) _ R.length _ rfl (hown.alloc _) ⟨wy.heap.size, 0, none⟩ 1 1 [.int .i64 (id : Int)] rfl rfl (World.news_of_block (cs := #[.int .i64 (id : Int)]) (t := 3) (fr := (0, 0)) (heap_alloc_new wy _)) ?c2 (by decide) ?c3 ?c4 ?c5 _ rfl ?_)
        case c2 => first | rfl | (intro u hu; simp at hu; subst hu; rfl)
        case c3 => unfold maxLen; omega
        case c4 => omega
        case c5 => first | omega | (simp; omega) | simp
        intro g4 cap4 x4 hown4 hgrow4 hat4 hlt4
        have H8 := H1d.out.below ((Below.refl _ _).alloc (Nat.le_refl _) (.cells #[.int .i64 (id : Int)] 3))
        have K8 := K1d.out.trans (H1d.out.keep ((Below.refl _ _).alloc (Nat.le_refl _) (.cells #[.int .i64 (id : Int)] 3)))
        have hrow : ∀ k, (Value.slice ra R.length rc).ownBlock = some k → w.heap.size ≤ k := fun k hk => (HRd.out.lt k hk).1
        have H9 : Hid (SM D s (p.withJ X) gv (.slice (some ⟨g, 0, none⟩) X.length cp) (.slice (some ⟨b, 0, none⟩) p.qs.length c) x4) := SM.growN (n := 0) HS.out H8 hgrow4 hrow
        have K9 : Hid (Keep D w x4) := K8.grown hgrow4 (fun k e => hdom.out k (hrow k e)) H8.dom
        have HR9 : Hid (x4.ownsRow w.heap.size 3 1 (.slice (some ⟨g4, 0, none⟩) (R.length + 1) cap4) (R ++ [id]).length ((R ++ [id]).map iV)) := by
          show World.ownsRow _ _ _ _ _ _ _
          simpa [iV] using hown4
        clear H8 K8 hrow hgrow4 hown4 hat4 hown hsz
        go_wp2_with fail
        go_roundg (p.qs.length - (n + 1) + 1)
        case measure => omega
        case rel => exact ⟨n + 1, _, rfl, by omega, rfl, by go_num, by rw [HSU.out]; exact HR9, by rw [HSU.out]; exact H9, K9⟩
    · have hlt' : ¬ (n : Int) < (p.qs.length : Int) := by omega
      have hnl : n = p.qs.length := by omega
      subst hnl
      have c4' := H1.out.pl.c 4
      change wz.cell? ⟨s, 4, none⟩ = some (.slice a p.qs.length c) at c4'
      have z4 := whole_frozen H1.out.pl 4
      have H2 : Hid (SM D s (beginF p) gv jv (.slice ra (begN p.now p.qs p.js p.qs.length).2.length rc) (wz.setCell ⟨s, 4, none⟩ (.slice ra (begN p.now p.qs p.js p.qs.length).2.length rc))) := H1.out.setQ (ownsRow_base HR.out (Nat.zero_le _)) (fun k hk => hdom.out k (HR.out.lt k hk).1)
      have K2 : Hid (Keep D w (wz.setCell ⟨s, 4, none⟩ (.slice ra (begN p.now p.qs p.js p.qs.length).2.length rc))) := K1.out.setCell H1.out.ds _
      go_wp2_with fail
      go_end0
      exact ⟨rfl, ⟨_, H2.out⟩, K2.out⟩

theorem filter_take {qs : List Nat} {id n : Nat} (h : n < qs.length) : (qs.take (n + 1)).filter (fun k => k ≠ id) = (if qs[n] = id then (qs.take n).filter (fun k => k ≠ id) else (qs.take n).filter (fun k => k ≠ id) ++ [qs[n]]) := by
  rw [List.take_succ_eq_append_getElem h, List.filter_append]
  by_cases e : qs[n] = id
  · simp [e]
  · simp [e]

set_option maxRecDepth 100000 in
set_option maxHeartbeats 1000000 in
theorem plLeave (h : SM D s p gv jv qv w) (hl : p.js.length ≤ 24) (hql : p.qs.length ≤ 24) (id : Nat) (hid : id < p.js.length) :
    Calls Try.prog 44 #[.pointer (some ⟨s, 1, none⟩), .int .i64 (id : Int)] w fun e w' => e = .returned (.tuple #[]) ∧ (∃ qv', SM D s (leaveP p id) gv jv qv' w') ∧ Keep D w w' := by
  obtain ⟨i0, hI0, hz0, hz1, hz2⟩ := info_parts infoIntL
  obtain ⟨a, c, rfl⟩ := (Ns.of h.qr).form
  obtain ⟨g, cp, rfl⟩ := h.jform hid
  have HS : Hid (SM D s p gv (.slice (some ⟨g, 0, none⟩) p.js.length cp) (.slice a p.qs.length c) w) := h
  have hdom : Hid (∀ k, w.heap.size ≤ k → D k) := h.dom
  have c4 := h.pl.c 4
  simp at c4
  have HFL : Hid (∀ n, n ≤ p.qs.length → ((p.qs.take n).filter (fun k => k ≠ id)).length ≤ 24) := by
    intro n hn
    have h1 := List.length_filter_le (fun k => decide (k ≠ id)) (p.qs.take n)
    rw [List.length_take] at h1
    omega
  clear h
  go_enter Try.func44, Try.ntmps44
  go_wp2_with fail
  go_loopg [4, 12] (p.qs.length + 1) (fun r rv x wr => ∃ (n : Nat) (wz : World), wz = wr ∧ n ≤ p.qs.length ∧ r = p.qs.length - n + 1 ∧ x = .int .i64 (n : Int) ∧ Hid (wz.ownsRow w.heap.size 3 1 rv ((p.qs.take n).filter (fun k => k ≠ id)).length (((p.qs.take n).filter (fun k => k ≠ id)).map iV)) ∧ Hid (Below w.heap.size w wz))
  case atStart => exact ⟨0, _, rfl, Nat.zero_le _, rfl, rfl, World.ownsRow_nil _ _ _ _, Below.refl _ _⟩
  case round =>
    obtain ⟨n, wz, rfl, hn, rfl, rfl, HR, HB⟩ := hrel
    obtain ⟨ra, rc, rfl⟩ := (Ns.of HR.out).form
    have hRl := HFL.out n hn
    by_cases hlt : n < p.qs.length
    · have hlt' : (n : Int) < (p.qs.length : Int) := by omega
      have HSU : Hid ((p.qs.take (n + 1)).filter (fun k => k ≠ id) = (if p.qs[n] = id then (p.qs.take n).filter (fun k => k ≠ id) else (p.qs.take n).filter (fun k => k ≠ id) ++ [p.qs[n]])) := filter_take hlt
      rcases Ns.of HS.out.qr with ⟨_, he⟩ | ⟨b, cap, hv, hcap, hb, hcell⟩
      · rw [show p.qs = [] from he] at hlt; simp at hlt
      cases hv
      have l0 := (HB.out.cell (p := ⟨b, n, none⟩) hb).trans (hcell n hlt)
      clear hcell
      generalize (p.qs.take n).filter (fun k => k ≠ id) = R at *
      generalize p.qs[n] = o at *
      have hown := HR.out
      have hsz := HB.out.size
      by_cases he : o = id
      · subst he
        rw [if_pos rfl] at HSU
        go_wp2_with fail
        go_roundg (p.qs.length - (n + 1) + 1)
        case measure => omega
        case rel => exact ⟨n + 1, _, rfl, by omega, rfl, by go_num, by rw [HSU.out]; exact HR, HB⟩
      · rw [if_neg he] at HSU
        have he' : ((o : Int) == (id : Int)) = false := by rw [beq_eq_false_iff_ne]; omega
        have he2 : ¬ (o : Int) = (id : Int) := by omega
        go_wp2_with (at_builtin; refine wpList_append_lies _ rfl _ _ 28 rfl w.heap.size 3 i0 (.int .i64 0) 1 8 Try.underlying28 hI0 hz0 hz1 hz2 rfl (by decide) _ R.length _ rfl (hown.alloc _) ⟨wz.heap.size, 0, none⟩ 1 1 [.int .i64 (o : Int)] rfl rfl (World.news_of_block (cs := #[.int .i64 (o : Int)]) (t := 3) (fr := (0, 0)) (heap_alloc_new wz _)) ?c2 (by decide) ?c3 ?c4 ?c5 _ rfl ?_)
        case c2 => first | rfl | (intro u hu; simp at hu; subst hu; rfl)
        case c3 => unfold maxLen; omega
        case c4 => omega
        case c5 => first | omega | (simp; omega) | simp
        intro g4 cap4 x4 hown4 hgrow4 hat4 hlt4
        have HB9 : Hid (Below w.heap.size w x4) := (HB.out.alloc hsz _).grown hgrow4 (by simp; omega) (fun k hk => (HR.out.lt k hk).1)
        have HR9 : Hid (x4.ownsRow w.heap.size 3 1 (.slice (some ⟨g4, 0, none⟩) (R.length + 1) cap4) (R ++ [o]).length ((R ++ [o]).map iV)) := by
          show World.ownsRow _ _ _ _ _ _ _
          simpa [iV] using hown4
        clear hgrow4 hown4 hat4 hown hsz
        go_wp2_with fail
        go_roundg (p.qs.length - (n + 1) + 1)
        case measure => omega
        case rel => exact ⟨n + 1, _, rfl, by omega, rfl, by go_num, by rw [HSU.out]; exact HR9, HB9⟩
    · have hlt' : ¬ (n : Int) < (p.qs.length : Int) := by omega
      have hnl : n = p.qs.length := by omega
      subst hnl
      rw [List.take_length] at *
      generalize hR : p.qs.filter (fun k => k ≠ id) = R at *
      have H1 := HS.out.below HB.out
      have hgs : g ≠ s := fun e => H1.jne (by simp [Value.ownBlock, e])
      have c3 := H1.pl.c 3; have c4 := H1.pl.c 4; have z4 := whole_frozen H1.pl 4
      simp at c3 c4
      obtain ⟨_, _, _, _, l4, _⟩ := H1.jc hid
      have z44 := ownsRow_frozen H1.jr (id * 6 + 4)
      have H2 := (H1.setQ (v := .slice ra R.length rc) (qs := R) (ownsRow_base HR.out (Nat.zero_le _)) (fun k hk => hdom.out k (HR.out.lt k hk).1)).setJ id 4 (by omega) (.int .i64 (-1)) (p.js[id].toSa (-1)) hid rfl
      have K2 := ((Keep.below HB.out hdom.out).setCell (p := ⟨s, 4, none⟩) H1.ds (.slice ra R.length rc)).setCell (p := ⟨g, id * 6 + 4, none⟩) (H1.dj g rfl) (.int .i64 (-1))
      have HE : Hid (leaveP p id = { p with js := p.js.set id (p.js[id].toSa (-1)), qs := R }) := by
        show _ = _
        unfold leaveP
        rw [getD_get hid, hR]
      have H2' : Hid (SM D s (leaveP p id) gv (.slice (some ⟨g, 0, none⟩) p.js.length cp) (.slice ra R.length rc) ((wz.setCell ⟨s, 4, none⟩ (.slice ra R.length rc)).setCell ⟨g, id * 6 + 4, none⟩ (.int .i64 (-1)))) := by
        show SM _ _ _ _ _ _ _
        rw [HE.out]; exact H2
      have K2' : Hid (Keep D w ((wz.setCell ⟨s, 4, none⟩ (.slice ra R.length rc)).setCell ⟨g, id * 6 + 4, none⟩ (.int .i64 (-1)))) := K2
      clear H1 H2 K2 hR
      go_wp2_with fail
      go_end0
      exact ⟨rfl, ⟨_, H2'.out⟩, K2'.out⟩
end Go.Proofs.Ytanknpmojblmcab

/-
  Package pool: Settle.
-/
set_option linter.unusedSimpArgs false
set_option linter.unusedVariables false
namespace Go.Proofs.Ytanknpmojblmcab
open Go.RowKit

variable {D : Nat → Prop} {s : Nat} {p : PS} {gv jv qv : Value} {w w' : World}

set_option maxHeartbeats 1000000 in
theorem plSettle (h : SM D s p gv jv qv w) (hP : POK p) :
    Calls Try.prog 23 #[.pointer (some ⟨s, 1, none⟩)] w fun e w' => e = .returned (.tuple #[]) ∧ (∃ qv', SM D s (settleF p) gv jv qv' w') ∧ Keep D w w' := by
  have HP : Hid (POK p) := hP
  have HS : Hid (SM D s p gv jv qv w) := h
  clear h hP
  go_enter Try.func23, Try.ntmps23
  go_wp2_with fail
  refine (plGiveUp HS.out HP.out).mono ?_
  rintro e x1 ⟨rfl, h1, k1⟩
  have H1 : Hid (SM D s (giveUpF p) gv jv qv x1) := h1
  have K1 : Hid (Keep D w x1) := k1
  clear h1 k1
  go_wp2_with fail
  refine (plMoveUp H1.out (giveUpF_ok HP.out)).mono ?_
  rintro e x2 ⟨rfl, h1, k1⟩
  have H2 : Hid (SM D s (moveUpF (giveUpF p)) gv jv qv x2) := h1
  have K2 : Hid (Keep D w x2) := K1.out.trans k1
  clear h1 k1
  go_wp2_with fail
  refine (plQueueUp H2.out (moveUpF_ok (giveUpF_ok HP.out))).mono ?_
  rintro e x3 ⟨rfl, ⟨q3, h1⟩, k1⟩
  have H3 : Hid (SM D s (queueUpF (moveUpF (giveUpF p))) gv jv q3 x3) := h1
  have K3 : Hid (Keep D w x3) := K2.out.trans k1
  clear h1 k1
  go_wp2_with fail
  refine (plBegin H3.out (queueUpF_ok (moveUpF_ok (giveUpF_ok HP.out)))).mono ?_
  rintro e x4 ⟨rfl, h1, k1⟩
  have H4 : Hid (∃ q4, SM D s (settleF p) gv jv q4 x4) := h1
  have K4 : Hid (Keep D w x4) := K3.out.trans k1
  clear h1 k1
  go_wp2_with fail
  go_end0
  exact ⟨rfl, H4.out, K4.out⟩

end Go.Proofs.Ytanknpmojblmcab

/-
  Package pool: Cancel, Pass.
-/
set_option linter.unusedSimpArgs false
set_option linter.unusedVariables false
namespace Go.Proofs.Ytanknpmojblmcab
open Go.RowKit

variable {D : Nat → Prop} {s : Nat} {p : PS} {gv jv qv : Value} {w w' : World}

set_option maxRecDepth 100000 in
set_option maxHeartbeats 1000000 in
theorem plCancel (h : SM D s p gv jv qv w) (hP : POK p) (id : Int) :
    Calls Try.prog 27 #[.pointer (some ⟨s, 1, none⟩), .int .i64 id] w fun e w' => e = .returned (.int .i64 ((cancelF p id).2 : Int)) ∧ (∃ qv', SM D s (cancelF p id).1 gv jv qv' w') ∧ Keep D w w' := by
  have HP : Hid (POK p) := hP
  have HS : Hid (SM D s p gv jv qv w) := h
  have hl := hP.n.ln
  have hql := hP.ql
  clear h hP
  cases hh : hasP p id with
  | false =>
    have HE : Hid (cancelF p id = (p, 11)) := by show _ = _; unfold cancelF; rw [if_pos hh]
    go_enter Try.func27, Try.ntmps27
    go_wp2_with fail
    refine (plHasId HS.out id).mono ?_
    rintro e x1 ⟨he, rfl⟩
    change e = .returned (.bool (hasP p id)) at he
    rw [hh] at he
    subst he
    go_wp2_with fail
    go_ret
    exact ⟨by rw [HE.out]; rfl, ⟨qv, by rw [HE.out]; exact HS.out⟩, Keep.refl _ _⟩
  | true =>
    obtain ⟨h0, hid, hcast⟩ := has_lt (p := p) (id := id) (by rw [hh]; decide)
    obtain ⟨g, cp, rfl⟩ := HS.out.jform hid
    have c3 := HS.out.pl.c 3
    simp at c3
    obtain ⟨_, l1, _, _, _, _⟩ := HS.out.jc hid
    have HG : Hid (p.js.getD id.toNat pj0 = p.js[id.toNat]) := getD_get hid
    have hst := (HP.out.n.js _ (List.getElem_mem hid)).st
    by_cases hs : 3 ≤ p.js[id.toNat].st
    · have HE : Hid (cancelF p id = (p, 12)) := by
        show _ = _; unfold cancelF; rw [if_neg (by rw [hh]; decide), HG.out, if_pos hs]
      obtain ⟨k, rfl⟩ : ∃ k : Nat, id = (k : Int) := ⟨id.toNat, hcast.symm⟩
      simp only [Int.toNat_natCast] at *
      have hs2 : (3 : Int) ≤ (p.js[k].st : Int) := by omega
      go_enter Try.func27, Try.ntmps27
      go_wp2_with fail
      refine (plHasId HS.out (k : Int)).mono ?_
      rintro e x1 ⟨he, rfl⟩
      change e = .returned (.bool (hasP p (k : Int))) at he
      rw [hh] at he
      subst he
      go_wp2_with fail
      go_ret
      exact ⟨by rw [HE.out]; rfl, ⟨qv, by rw [HE.out]; exact HS.out⟩, Keep.refl _ _⟩
    · by_cases h1 : p.js[id.toNat].st = 1
      · have HE : Hid (cancelF p id = (settleF (endP (leaveP p id.toNat) id.toNat 5), 0)) := by
          show _ = _; unfold cancelF; rw [if_neg (by rw [hh]; decide), HG.out, if_neg hs, if_pos h1]
        have HO : Hid (POK (endP (leaveP p id.toNat) id.toNat 5)) := leaveP_ok HP.out _ hid (by rw [HG.out]; exact h1)
        obtain ⟨k, rfl⟩ : ∃ k : Nat, id = (k : Int) := ⟨id.toNat, hcast.symm⟩
        simp only [Int.toNat_natCast] at *
        rw [h1] at l1
        go_enter Try.func27, Try.ntmps27
        go_wp2_with fail
        refine (plHasId HS.out (k : Int)).mono ?_
        rintro e x1 ⟨he, rfl⟩
        change e = .returned (.bool (hasP p (k : Int))) at he
        rw [hh] at he
        subst he
        go_wp2_with fail
        refine (plLeave HS.out hl hql k hid).mono ?_
        rintro e x2 ⟨rfl, ⟨q2, h2⟩, k2⟩
        have H2 : Hid (SM D s (leaveP p k) gv (.slice (some ⟨g, 0, none⟩) p.js.length cp) q2 x2) := h2
        have K2 : Hid (Keep D x1 x2) := k2
        have hlen : (leaveP p k).js.length = p.js.length := by unfold leaveP; simp
        have hid2 : k < (leaveP p k).js.length := by omega
        clear h2 k2
        go_wp2_with fail
        refine (plEnd H2.out k 5 hid2 (by omega)).mono ?_
        rintro e x3 ⟨rfl, h2, k2⟩
        have H3 : Hid (SM D s (endP (leaveP p k) k 5) gv (.slice (some ⟨g, 0, none⟩) p.js.length cp) q2 x3) := by
          show SM _ _ _ _ _ _ _
          unfold endP PS.withJ
          rw [getD_get hid2]
          exact h2
        have K3 : Hid (Keep D x1 x3) := K2.out.trans k2
        clear h2 k2
        go_wp2_with fail
        refine (plSettle H3.out HO.out).mono ?_
        rintro e x4 ⟨rfl, h2, k2⟩
        have H4 : Hid (∃ q, SM D s (settleF (endP (leaveP p k) k 5)) gv (.slice (some ⟨g, 0, none⟩) p.js.length cp) q x4) := h2
        have K4 : Hid (Keep D x1 x4) := K3.out.trans k2
        clear h2 k2
        go_wp2_with fail
        go_ret
        exact ⟨by rw [HE.out]; rfl, by rw [HE.out]; exact H4.out, K4.out⟩
      · have HE : Hid (cancelF p id = (settleF (endP p id.toNat 5), 0)) := by
          show _ = _; unfold cancelF; rw [if_neg (by rw [hh]; decide), HG.out, if_neg hs, if_neg h1]
        have HO : Hid (POK (endP p id.toNat 5)) := endP_ok HP.out _ _ hid (by rw [HG.out]; exact h1) (by omega) (by omega)
        obtain ⟨k, rfl⟩ : ∃ k : Nat, id = (k : Int) := ⟨id.toNat, hcast.symm⟩
        simp only [Int.toNat_natCast] at *
        have h1' : ((p.js[k].st : Int) == 1) = false := by rw [beq_eq_false_iff_ne]; omega
        have hs2 : ¬ (3 : Int) ≤ (p.js[k].st : Int) := by omega
        have hs3 : (p.js[k].st : Int) < 3 := by omega
        go_enter Try.func27, Try.ntmps27
        go_wp2_with fail
        refine (plHasId HS.out (k : Int)).mono ?_
        rintro e x1 ⟨he, rfl⟩
        change e = .returned (.bool (hasP p (k : Int))) at he
        rw [hh] at he
        subst he
        go_wp2_with fail
        refine (plEnd HS.out k 5 hid hl).mono ?_
        rintro e x3 ⟨rfl, h2, k2⟩
        have H3 : Hid (SM D s (endP p k 5) gv (.slice (some ⟨g, 0, none⟩) p.js.length cp) qv x3) := by
          show SM _ _ _ _ _ _ _
          unfold endP PS.withJ
          rw [getD_get (show k < p.js.length by simpa using hid)]
          exact h2
        have K3 : Hid (Keep D x1 x3) := k2
        clear h2 k2
        go_wp2_with fail
        refine (plSettle H3.out HO.out).mono ?_
        rintro e x4 ⟨rfl, h2, k2⟩
        have H4 : Hid (∃ q, SM D s (settleF (endP p k 5)) gv (.slice (some ⟨g, 0, none⟩) p.js.length cp) q x4) := h2
        have K4 : Hid (Keep D x1 x4) := K3.out.trans k2
        clear h2 k2
        go_wp2_with fail
        go_ret
        exact ⟨by rw [HE.out]; rfl, by rw [HE.out]; exact H4.out, K4.out⟩
end Go.Proofs.Ytanknpmojblmcab

/-
  A system's answers: Status.
-/
set_option linter.unusedSimpArgs false
set_option linter.unusedVariables false
namespace Go.Proofs.Ytanknpmojblmcab
open Go.RowKit

variable {D : Nat → Prop} {s : Nat} {p : PS} {gv jv qv : Value} {w w' : World}

def statP (p : PS) (id : Int) : List Value × Nat := if hasP p id = false then ([.int .i64 0, .int .i64 0, .int .i64 0, .int .i64 0, .int .i64 0], 11) else ([.int .i64 ((p.js.getD id.toNat pj0).st : Int), .int .i64 ((p.js.getD id.toNat pj0).nd : Int), .int .i64 ((p.js.getD id.toNat pj0).tm : Int), .int .i64 (p.js.getD id.toNat pj0).sa, .int .i64 (p.js.getD id.toNat pj0).en], 0)

set_option maxHeartbeats 1000000 in
theorem plStatus (h : SM D s p gv jv qv w) (id : Int) (hl : p.js.length ≤ 24) :
    Calls Try.prog 26 #[.pointer (some ⟨s, 1, none⟩), .int .i64 id] w fun e w' => e = .returned (.tuple #[.agg (statP p id).1.toArray, .int .i64 ((statP p id).2 : Int)]) ∧ Below w.heap.size w w' := by
  have HS : Hid (SM D s p gv jv qv w) := h
  clear h
  have HA : Hid (SM D s p gv jv qv (w.alloc (.cells #[.int .i64 0, .int .i64 0, .int .i64 0, .int .i64 0, .int .i64 0] 39))) := HS.out.below ((Below.refl _ _).alloc (Nat.le_refl _) _)
  have HB : Hid (Below w.heap.size w (w.alloc (.cells #[.int .i64 0, .int .i64 0, .int .i64 0, .int .i64 0, .int .i64 0] 39))) := (Below.refl _ _).alloc (Nat.le_refl _) _
  have Y := whole_new w (.cells #[.int .i64 0, .int .i64 0, .int .i64 0, .int .i64 0, .int .i64 0] 39 (0, 0))
  cases hh : hasP p id with
  | false =>
    have HE : Hid (statP p id = ([.int .i64 0, .int .i64 0, .int .i64 0, .int .i64 0, .int .i64 0], 11)) := by show _ = _; unfold statP; rw [if_pos hh]
    go_enter Try.func26, Try.ntmps26
    go_wp2_with fail
    refine (plHasId HA.out id).mono ?_
    rintro e x1 ⟨he, rfl⟩
    change e = .returned (.bool (hasP p id)) at he
    rw [hh] at he
    subst he
    go_wp2_with fail
    refine bodyPost_ret (resultsCT rfl _ _ w.heap.size 39 #[.int .i64 0, .int .i64 0, .int .i64 0, .int .i64 0, .int .i64 0] (0, 0) _ (by rfl) Y Try.underlying39 (by rfl) (by kernel_rfl)) rfl ?_
    exact ⟨by rw [HE.out]; rfl, HB.out⟩
  | true =>
    obtain ⟨h0, hid, hcast⟩ := has_lt (p := p) (id := id) (by rw [hh]; decide)
    obtain ⟨g, cp, rfl⟩ := HS.out.jform hid
    have c3 := HA.out.pl.c 3
    simp only [List.getElem?_toArray, List.getElem?_cons_succ, List.getElem?_cons_zero] at c3
    obtain ⟨_, l1, l2, l3, l4, l5⟩ := HA.out.jc hid
    have z0 := whole_frozen Y 0; have z1 := whole_frozen Y 1; have z2 := whole_frozen Y 2; have z3 := whole_frozen Y 3; have z4 := whole_frozen Y 4
    have k0 := whole_cell Y 0; have k1 := whole_cell Y 1; have k2 := whole_cell Y 2; have k3 := whole_cell Y 3; have k4 := whole_cell Y 4
    simp at k0 k1 k2 k3 k4
    have HE : Hid (statP p id = ([.int .i64 (p.js[id.toNat].st : Int), .int .i64 (p.js[id.toNat].nd : Int), .int .i64 (p.js[id.toNat].tm : Int), .int .i64 p.js[id.toNat].sa, .int .i64 p.js[id.toNat].en], 0)) := by show _ = _; unfold statP; rw [if_neg (by rw [hh]; decide), getD_get hid]
    obtain ⟨k, rfl⟩ : ∃ k : Nat, id = (k : Int) := ⟨id.toNat, hcast.symm⟩
    simp only [Int.toNat_natCast] at *
    go_enter Try.func26, Try.ntmps26
    go_wp2_with fail
    refine (plHasId HA.out (k : Int)).mono ?_
    rintro e x1 ⟨he, rfl⟩
    change e = .returned (.bool (hasP p (k : Int))) at he
    rw [hh] at he
    subst he
    go_wp2_with fail
    refine bodyPost_ret (resultsCT rfl _ _ w.heap.size 39 #[.int .i64 (p.js[k].st : Int), .int .i64 (p.js[k].nd : Int), .int .i64 (p.js[k].tm : Int), .int .i64 p.js[k].sa, .int .i64 p.js[k].en] (0, 0) _ (by rfl) (whole_new w _) Try.underlying39 (by rfl) (by kernel_rfl)) rfl ?_
    exact ⟨by rw [HE.out]; rfl, (Below.refl _ _).alloc (Nat.le_refl _) _⟩

theorem statP_form (p : PS) (id : Int) : ∃ a b c d e : Int, (statP p id).1 = [.int .i64 a, .int .i64 b, .int .i64 c, .int .i64 d, .int .i64 e] := by
  unfold statP
  split
  · exact ⟨_, _, _, _, _, rfl⟩
  · exact ⟨_, _, _, _, _, rfl⟩

set_option maxHeartbeats 1000000 in
theorem syStatus (h : SM D s p gv jv qv w) (id : Int) (hl : p.js.length ≤ 24) :
    Calls Try.prog 10 #[.pointer (some ⟨s, 0, none⟩), .int .i64 id] w fun e w' => e = .returned (.tuple #[.agg (statP p id).1.toArray, .int .i64 ((statP p id).2 : Int)]) ∧ Below w.heap.size w w' := by
  have HA : Hid (SM D s p gv jv qv (w.alloc (.cells #[.int .i64 0, .int .i64 0, .int .i64 0, .int .i64 0, .int .i64 0] 39))) := h.below ((Below.refl _ _).alloc (Nat.le_refl _) _)
  clear h
  obtain ⟨a0, a1, a2, a3, a4, hform⟩ := statP_form p id
  have HF : Hid ((statP p id).1 = [.int .i64 a0, .int .i64 a1, .int .i64 a2, .int .i64 a3, .int .i64 a4]) := hform
  clear hform
  go_enter Try.func10, Try.ntmps10
  go_wp2_with fail
  have hW := (Below.refl _ w).alloc (Nat.le_refl _) (.cells #[.int .i64 0, .int .i64 0, .int .i64 0, .int .i64 0, .int .i64 0] 39)
  have Y := whole_new w (.cells #[.int .i64 0, .int .i64 0, .int .i64 0, .int .i64 0, .int .i64 0] 39 (0, 0))
  refine (plStatus HA.out id hl).mono ?_
  rintro e w1 ⟨he, hB⟩
  rw [HF.out] at he
  change e = .returned (.tuple #[.agg #[.int .i64 a0, .int .i64 a1, .int .i64 a2, .int .i64 a3, .int .i64 a4], _]) at he
  subst he
  have Y1 := (hB.block _ (whole_lt Y)).trans Y
  replace hW := hW.trans (hB.mono (by simp))
  have z0 := whole_frozen Y1 0; have z1 := whole_frozen Y1 1; have z2 := whole_frozen Y1 2; have z3 := whole_frozen Y1 3; have z4 := whole_frozen Y1 4
  have k0 := whole_cell Y1 0; have k1 := whole_cell Y1 1; have k2 := whole_cell Y1 2; have k3 := whole_cell Y1 3; have k4 := whole_cell Y1 4
  simp at k0 k1 k2 k3 k4
  go_wp2_with fail
  refine bodyPost_ret (resultsCT rfl _ _ w.heap.size 39 #[.int .i64 a0, .int .i64 a1, .int .i64 a2, .int .i64 a3, .int .i64 a4] (0, 0) _ (by rfl) (whole_set (whole_set (whole_set (whole_set (whole_set Y1 0 _) 1 _) 2 _) 3 _) 4 _) Try.underlying39 (by rfl) (by kernel_rfl)) rfl ?_
  exact ⟨by rw [HF.out]; rfl, ((((hW.setCell (Nat.le_refl _) _).setCell (Nat.le_refl _) _).setCell (Nat.le_refl _) _).setCell (Nat.le_refl _) _).setCell (Nat.le_refl _) _⟩
end Go.Proofs.Ytanknpmojblmcab

/-
  A system: Cancel, New.
-/
set_option linter.unusedSimpArgs false
set_option linter.unusedVariables false
namespace Go.Proofs.Ytanknpmojblmcab
open Go.RowKit

variable {D : Nat → Prop} {s : Nat} {p : PS} {gv jv qv : Value} {w w' : World}

set_option maxHeartbeats 1000000 in
theorem syCancel (h : SM D s p gv jv qv w) (hP : POK p) (id : Int) :
    Calls Try.prog 11 #[.pointer (some ⟨s, 0, none⟩), .int .i64 id] w fun e w' => e = .returned (.int .i64 ((cancelF p id).2 : Int)) ∧ (∃ qv', SM D s (cancelF p id).1 gv jv qv' w') ∧ Keep D w w' := by
  have HS : Hid (SM D s p gv jv qv w) := h
  clear h
  go_enter Try.func11, Try.ntmps11
  go_wp2_with fail
  refine (plCancel HS.out hP id).mono ?_
  rintro e x1 ⟨rfl, h1, k1⟩
  go_wp2_with fail
  go_ret
  exact ⟨rfl, h1, k1⟩


def newP (n : Nat) : PS := ⟨[], n, 0, [], []⟩
theorem newP_ok {n : Nat} (h : n ≤ 8) : POK (newP n) :=
  ⟨⟨by simp [newP], by simp [newP], h, by simp [newP], by simp [newP], by simp [newP], by simp [newP]⟩, ⟨by simp [newP], by simp [newP], by simp [newP], by simp [newP], by simp [newP]⟩⟩

set_option maxHeartbeats 1000000 in
theorem poolNewAny (n : Int) (w : World) :
    Calls Try.prog 28 #[.int .i64 n] w fun e w' => e = .returned (.agg #[.int .i64 n, .int .i64 0, .slice none 0 0, .slice none 0 0]) ∧ Below w.heap.size w w' := by
  go_enter Try.func28, Try.ntmps28
  go_wp2_with fail
  refine bodyPost_ret (results_cell_row rfl _ _ w.heap.size 58 #[.int .i64 n, .int .i64 0, .slice none 0 0, .slice none 0 0] (0, 0) _ (by rfl) (whole_new w _) Try.underlying58 (by rfl) (by kernel_rfl)) rfl ?_
  exact ⟨rfl, (Below.refl _ w).alloc (Nat.le_refl _) _⟩

set_option maxHeartbeats 1000000 in
theorem syNew (n : Nat) (h1 : 1 ≤ n) (h8 : n ≤ 8) (w : World) :
    Calls Try.prog 13 #[.int .i64 (n : Int)] w fun e w' => ∃ s, e = .returned (.tuple #[.pointer (some ⟨s, 0, none⟩), .int .i64 0]) ∧ w.heap.size ≤ s ∧ SM (fun k => w.heap.size ≤ k) s (newP n) (.slice none 0 0) (.slice none 0 0) (.slice none 0 0) w' ∧ Below w.heap.size w w' := by
  have g1 : ¬ (n : Int) < 1 := by omega
  have g2 : ¬ (8 : Int) < (n : Int) := by omega
  go_enter Try.func13, Try.ntmps13
  go_wp2_with fail
  refine (poolNewAny (n : Int) _).mono ?_
  rintro e w1 ⟨rfl, hB⟩
  go_wp2_with fail
  go_ret2
  have hsz := hB.size
  exact ⟨_, rfl, hB.size, ⟨whole_new w1 _, World.ownsRow_nil _ _ _ _, World.ownsRow_nil _ _ _ _, World.ownsRow_nil _ _ _ _, hB.size, by simp [Value.ownBlock], by simp [Value.ownBlock], by simp [Value.ownBlock], fun k hk => by simp at hk; omega⟩, hB.alloc hB.size _⟩

set_option maxHeartbeats 1000000 in
theorem syNew_no (n : Int) (h : n < 1 ∨ 8 < n) (w : World) :
    Calls Try.prog 13 #[.int .i64 n] w fun e w' => e = .returned (.tuple #[.pointer none, .int .i64 10]) ∧ Below w.heap.size w w' := by
  by_cases h1 : n < 1
  · go_enter Try.func13, Try.ntmps13
    go_wp2_with fail
    go_ret2
    exact ⟨rfl, Below.refl _ _⟩
  · have h2 : 8 < n := by omega
    go_enter Try.func13, Try.ntmps13
    go_wp2_with fail
    go_ret2
    exact ⟨rfl, Below.refl _ _⟩
end Go.Proofs.Ytanknpmojblmcab

/-
  Ring: a system, and whether its jobs are as they must be.
-/
set_option linter.unusedSimpArgs false
set_option linter.unusedVariables false
namespace Go.Proofs.Ytanknpmojblmcab
open Go.RowKit

/-- A World's block: the system, the nodes, the time, the book. -/
def WoR (b s N k : Nat) (w : World) : Prop := w.heap[b]? = some (.cells #[.pointer (some ⟨s, 0, none⟩), .int .i64 (N : Int), .int .i64 0, .pointer (some ⟨k, 0, none⟩)] 34 (0, 0))

set_option maxRecDepth 100000 in
set_option maxHeartbeats 1000000 in
theorem rgBegin (c : Int) (h1 : -9223372036854775808 ≤ c) (h2 : c ≤ 9223372036854775807) (w : World) :
    Calls Try.prog 6 #[.int .i64 c] w fun e w' => ∃ b s k, e = .returned (.tuple #[.pointer (some ⟨b, 0, none⟩), .bool true]) ∧ WoR b s (1 + pickD c % 8) k w' ∧ w.heap.size ≤ b ∧ SM (fun j => w.heap.size ≤ j ∧ j ≠ b) s (newP (1 + pickD c % 8)) (.slice none 0 0) (.slice none 0 0) (.slice none 0 0) w' ∧ Below w.heap.size w w' := by
  have hk : pickD c % 8 < 8 := Nat.mod_lt _ (by omega)
  go_enter Try.func6, Try.ntmps6
  go_wp2_with fail
  refine (rgPick c 8 h1 h2 (by omega) (by omega) w).mono ?_
  rintro e x1 ⟨rfl, rfl⟩
  obtain ⟨N, hN⟩ : ∃ N, N = 1 + pickD c % 8 := ⟨_, rfl⟩
  have HN : Hid (1 + pickD c % 8 = N) := hN.symm
  have e1 : (1 : Int) + ((pickD c % 8 : Nat) : Int) = (N : Int) := by omega
  obtain ⟨q, hq⟩ : ∃ q, q = pickD c % 8 := ⟨_, rfl⟩
  rw [← hq] at e1 ⊢
  have hN1 : 1 ≤ N := by omega
  have hN8 : N ≤ 8 := by omega
  clear hN hq hk
  go_wp2_with fail
  refine (syNew N hN1 hN8 _).mono ?_
  rintro e x2 ⟨s, rfl, hs, hS, hB⟩
  go_wp2_with fail
  go_ret2
  have hsz := hB.size
  have hs2 := hS.pl.lt
  have hB2 : Below x1.heap.size x1 ((x2.alloc (.cells #[.slice none 0 0, .int .i64 0, .int .i64 0] 49)).alloc (.cells #[.pointer (some ⟨s, 0, none⟩), .int .i64 (N : Int), .int .i64 0, .pointer (some ⟨x2.heap.size, 0, none⟩)] 34)) := (hB.alloc hB.size _).alloc (by simp; omega) _
  have hS2 := hS.below (((Below.refl _ x2).alloc (Nat.le_refl _) (.cells #[.slice none 0 0, .int .i64 0, .int .i64 0] 49)).alloc (by simp) (.cells #[.pointer (some ⟨s, 0, none⟩), .int .i64 (N : Int), .int .i64 0, .pointer (some ⟨x2.heap.size, 0, none⟩)] 34))
  have q := whole_new (x2.alloc (.cells #[.slice none 0 0, .int .i64 0, .int .i64 0] 49)) (.cells #[.pointer (some ⟨s, 0, none⟩), .int .i64 (N : Int), .int .i64 0, .pointer (some ⟨x2.heap.size, 0, none⟩)] 34 (0, 0))
  rw [World.size_alloc] at q
  refine ⟨x2.heap.size + 1, s, x2.heap.size, rfl, by rw [HN.out]; exact q, by omega, ?_, hB2⟩
  rw [HN.out]
  exact ⟨hS2.pl, hS2.gr, hS2.jr, hS2.qr, ⟨hs, by omega⟩, by simp [Value.ownBlock], by simp [Value.ownBlock], by simp [Value.ownBlock], fun k hk => by simp at hk; exact ⟨by omega, by omega⟩⟩

theorem statP_get {p : PS} {i : Nat} (h : i < p.js.length) : statP p (i : Int) = ([.int .i64 ((p.js.getD i pj0).st : Int), .int .i64 ((p.js.getD i pj0).nd : Int), .int .i64 ((p.js.getD i pj0).tm : Int), .int .i64 (p.js.getD i pj0).sa, .int .i64 (p.js.getD i pj0).en], 0) := by
  unfold statP
  rw [if_neg (by unfold hasP; simp; omega)]
  simp
/-- A job's state as it must be. -/
def folS (n s z : Nat) (b : Int) (i : Nat) : Nat := if i = z then 5 else if opA ((z + n - s) % n) b = 1 then 6 else if i = (z + n - s) % n then 2 else 0

set_option maxRecDepth 100000 in
set_option maxHeartbeats 2000000 in
theorem rgFollows {D : Nat → Prop} {p : PS} {gv jv qv : Value} (bw s0 N k n s z : Nat) (b : Int) (w : World) (hW : WoR bw s0 N k w) (hS : SM D s0 p gv jv qv w) (hn : n ≤ 12) (hn0 : 0 < n) (hs : s < n ∨ s = 0) (hz : z < n) (h1 : -9223372036854775808 ≤ b) (h2 : b ≤ 9223372036854775807)
    (hl : p.js.length = n) (hst : ∀ i, i < n → (p.js.getD i pj0).st = folS n s z b i) :
    Calls Try.prog 12 #[.pointer (some ⟨bw, 0, none⟩), .int .i64 (n : Int), .int .i64 (s : Int), .int .i64 b, .int .i64 (z : Int)] w fun e w' => e = .returned (.bool true) ∧ Below w.heap.size w w' := by
  have hz0 : (n : Int) ≠ 0 := by omega
  obtain ⟨nx, hnx⟩ : ∃ nx, nx = (z + n - s) % n := ⟨_, rfl⟩
  have hnl : nx < n := by rw [hnx]; exact Nat.mod_lt _ hn0
  have m1 : ((z : Int) + (n : Int) - (s : Int)) % (n : Int) = (nx : Int) := by
    rw [hnx, Int.natCast_emod, show ((z + n - s : Nat) : Int) = (z : Int) + (n : Int) - (s : Int) from by omega]
  have HST : Hid (∀ i, i < n → (p.js.getD i pj0).st = (if i = z then 5 else if opA nx b = 1 then 6 else if i = nx then 2 else 0)) := by
    intro i hi
    rw [hst i hi]; unfold folS; rw [← hnx]
  have HS : Hid (SM D s0 p gv jv qv w) := hS
  have HW : Hid (WoR bw s0 N k w) := hW
  have HL : Hid (p.js.length = n) := hl
  have hpl : p.js.length ≤ 12 := by omega
  clear hst hnx hl
  have hopc : opA nx b = 1 ∨ opA nx b = 2 ∨ opA nx b = 3 := by
    have : (nx + pickD b % 3) % 3 < 3 := Nat.mod_lt _ (by omega)
    unfold opA; omega
  go_enter Try.func12, Try.ntmps12
  go_wp2_with fail
  refine (rgAsk nx b (by omega) h1 h2 _).mono ?_
  rintro e x1 ⟨he, rfl⟩
  have HOP : Hid (opA nx b = 1 ∨ opA nx b = 2 ∨ opA nx b = 3) := hopc
  generalize opA nx b = o at *
  clear hopc
  rcases HOP.out with h | h | h
  · subst h
    change e = .returned (.string ⟨#[111, 107, 58]⟩) at he
    subst he
    go_wp2_with fail
    go_loopg [13] (n + 1) (fun r x wr => ∃ (i : Nat) (wz : World), wz = wr ∧ i ≤ n ∧ r = n - i + 1 ∧ x = .int .i64 (i : Int) ∧ Hid (Below x1.heap.size x1 wz))
    case atStart => exact ⟨0, _, rfl, Nat.zero_le _, rfl, rfl, Below.refl _ _⟩
    case round =>
      obtain ⟨i, wz, rfl, hi, rfl, rfl, HB⟩ := hrel
      by_cases hlt : i < n
      · have hlt' : (i : Int) < (n : Int) := by omega
        have c0 := (HB.out.cell (p := ⟨bw, 0, none⟩) (whole_lt HW.out)).trans (whole_cell HW.out 0)
        simp at c0
        have hst := HST.out i hlt
        have HSP : Hid (statP p (i : Int) = ([.int .i64 ((p.js.getD i pj0).st : Int), .int .i64 ((p.js.getD i pj0).nd : Int), .int .i64 ((p.js.getD i pj0).tm : Int), .int .i64 (p.js.getD i pj0).sa, .int .i64 (p.js.getD i pj0).en], 0)) := statP_get (by rw [HL.out]; exact hlt)
        go_wp2_with fail
        refine (syStatus (HS.out.below HB.out) (i : Int) (by omega)).mono ?_
        rintro e y1 ⟨he, hY1⟩
        rw [HSP.out] at he
        change e = .returned (.tuple #[.agg #[.int .i64 ((p.js.getD i pj0).st : Int), .int .i64 ((p.js.getD i pj0).nd : Int), .int .i64 ((p.js.getD i pj0).tm : Int), .int .i64 (p.js.getD i pj0).sa, .int .i64 (p.js.getD i pj0).en], .int .i64 0]) at he
        have HBn : ∀ (cs : Array Value) (t : TypeId), Hid (Below x1.heap.size x1 (y1.alloc (.cells cs t))) := fun cs t => (HB.out.trans (hY1.mono HB.out.size)).alloc (Nat.le_trans HB.out.size hY1.size) _
        clear hY1
        generalize (p.js.getD i pj0).nd = d1 at *
        generalize (p.js.getD i pj0).tm = d2 at *
        generalize (p.js.getD i pj0).sa = d3 at *
        generalize (p.js.getD i pj0).en = d4 at *
        generalize (p.js.getD i pj0).st = st at *
        by_cases e1 : (i : Int) = (z : Int)
        · have hs5 : st = 5 := by rw [hst, if_pos (by omega)]
          have e1' : ((i : Int) == (z : Int)) = true := by simpa using e1
          clear hst
          rw [hs5] at he
          subst he
          go_wp2_with fail
          go_roundg (n - (i + 1) + 1)
          case measure => omega
          case rel => exact ⟨i + 1, _, rfl, by omega, rfl, by go_num, HBn _ _⟩
        · have hs5 : st = 6 := by rw [hst, if_neg (by omega)]; simp
          have e1' : ((i : Int) == (z : Int)) = false := by simpa using e1
          clear hst
          rw [hs5] at he
          subst he
          go_wp2_with fail
          go_roundg (n - (i + 1) + 1)
          case measure => omega
          case rel => exact ⟨i + 1, _, rfl, by omega, rfl, by go_num, HBn _ _⟩
      · have hlt' : ¬ (i : Int) < (n : Int) := by omega
        go_wp2_with fail
        go_ret
        exact ⟨rfl, HB.out⟩
  · subst h
    change e = .returned (.string ⟨#[97, 110, 121, 58]⟩) at he
    subst he
    go_wp2_with fail
    go_loopg [13] (n + 1) (fun r x wr => ∃ (i : Nat) (wz : World), wz = wr ∧ i ≤ n ∧ r = n - i + 1 ∧ x = .int .i64 (i : Int) ∧ Hid (Below x1.heap.size x1 wz))
    case atStart => exact ⟨0, _, rfl, Nat.zero_le _, rfl, rfl, Below.refl _ _⟩
    case round =>
      obtain ⟨i, wz, rfl, hi, rfl, rfl, HB⟩ := hrel
      by_cases hlt : i < n
      · have hlt' : (i : Int) < (n : Int) := by omega
        have c0 := (HB.out.cell (p := ⟨bw, 0, none⟩) (whole_lt HW.out)).trans (whole_cell HW.out 0)
        simp at c0
        have hst := HST.out i hlt
        have HSP : Hid (statP p (i : Int) = ([.int .i64 ((p.js.getD i pj0).st : Int), .int .i64 ((p.js.getD i pj0).nd : Int), .int .i64 ((p.js.getD i pj0).tm : Int), .int .i64 (p.js.getD i pj0).sa, .int .i64 (p.js.getD i pj0).en], 0)) := statP_get (by rw [HL.out]; exact hlt)
        go_wp2_with fail
        refine (syStatus (HS.out.below HB.out) (i : Int) (by omega)).mono ?_
        rintro e y1 ⟨he, hY1⟩
        rw [HSP.out] at he
        change e = .returned (.tuple #[.agg #[.int .i64 ((p.js.getD i pj0).st : Int), .int .i64 ((p.js.getD i pj0).nd : Int), .int .i64 ((p.js.getD i pj0).tm : Int), .int .i64 (p.js.getD i pj0).sa, .int .i64 (p.js.getD i pj0).en], .int .i64 0]) at he
        have HBn : ∀ (cs : Array Value) (t : TypeId), Hid (Below x1.heap.size x1 (y1.alloc (.cells cs t))) := fun cs t => (HB.out.trans (hY1.mono HB.out.size)).alloc (Nat.le_trans HB.out.size hY1.size) _
        clear hY1
        generalize (p.js.getD i pj0).nd = d1 at *
        generalize (p.js.getD i pj0).tm = d2 at *
        generalize (p.js.getD i pj0).sa = d3 at *
        generalize (p.js.getD i pj0).en = d4 at *
        generalize (p.js.getD i pj0).st = st at *
        by_cases e1 : (i : Int) = (z : Int)
        · have hs5 : st = 5 := by rw [hst, if_pos (by omega)]
          have e1' : ((i : Int) == (z : Int)) = true := by simpa using e1
          clear hst
          rw [hs5] at he
          subst he
          go_wp2_with fail
          go_roundg (n - (i + 1) + 1)
          case measure => omega
          case rel => exact ⟨i + 1, _, rfl, by omega, rfl, by go_num, HBn _ _⟩
        · have e1' : ((i : Int) == (z : Int)) = false := by simpa using e1
          by_cases e2 : (i : Int) = (nx : Int)
          · have hs5 : st = 2 := by rw [hst, if_neg (by omega), if_neg (by decide), if_pos (by omega)]
            have e2' : ((i : Int) == (nx : Int)) = true := by simpa using e2
            clear hst
            rw [hs5] at he
            subst he
            go_wp2_with fail
            go_roundg (n - (i + 1) + 1)
            case measure => omega
            case rel => exact ⟨i + 1, _, rfl, by omega, rfl, by go_num, HBn _ _⟩
          · have hs5 : st = 0 := by rw [hst, if_neg (by omega), if_neg (by decide), if_neg (by omega)]
            have e2' : ((i : Int) == (nx : Int)) = false := by simpa using e2
            clear hst
            rw [hs5] at he
            subst he
            go_wp2_with fail
            go_roundg (n - (i + 1) + 1)
            case measure => omega
            case rel => exact ⟨i + 1, _, rfl, by omega, rfl, by go_num, HBn _ _⟩
      · have hlt' : ¬ (i : Int) < (n : Int) := by omega
        go_wp2_with fail
        go_ret
        exact ⟨rfl, HB.out⟩
  · subst h
    change e = .returned (.string ⟨#[110, 111, 116, 58]⟩) at he
    subst he
    go_wp2_with fail
    go_loopg [13] (n + 1) (fun r x wr => ∃ (i : Nat) (wz : World), wz = wr ∧ i ≤ n ∧ r = n - i + 1 ∧ x = .int .i64 (i : Int) ∧ Hid (Below x1.heap.size x1 wz))
    case atStart => exact ⟨0, _, rfl, Nat.zero_le _, rfl, rfl, Below.refl _ _⟩
    case round =>
      obtain ⟨i, wz, rfl, hi, rfl, rfl, HB⟩ := hrel
      by_cases hlt : i < n
      · have hlt' : (i : Int) < (n : Int) := by omega
        have c0 := (HB.out.cell (p := ⟨bw, 0, none⟩) (whole_lt HW.out)).trans (whole_cell HW.out 0)
        simp at c0
        have hst := HST.out i hlt
        have HSP : Hid (statP p (i : Int) = ([.int .i64 ((p.js.getD i pj0).st : Int), .int .i64 ((p.js.getD i pj0).nd : Int), .int .i64 ((p.js.getD i pj0).tm : Int), .int .i64 (p.js.getD i pj0).sa, .int .i64 (p.js.getD i pj0).en], 0)) := statP_get (by rw [HL.out]; exact hlt)
        go_wp2_with fail
        refine (syStatus (HS.out.below HB.out) (i : Int) (by omega)).mono ?_
        rintro e y1 ⟨he, hY1⟩
        rw [HSP.out] at he
        change e = .returned (.tuple #[.agg #[.int .i64 ((p.js.getD i pj0).st : Int), .int .i64 ((p.js.getD i pj0).nd : Int), .int .i64 ((p.js.getD i pj0).tm : Int), .int .i64 (p.js.getD i pj0).sa, .int .i64 (p.js.getD i pj0).en], .int .i64 0]) at he
        have HBn : ∀ (cs : Array Value) (t : TypeId), Hid (Below x1.heap.size x1 (y1.alloc (.cells cs t))) := fun cs t => (HB.out.trans (hY1.mono HB.out.size)).alloc (Nat.le_trans HB.out.size hY1.size) _
        clear hY1
        generalize (p.js.getD i pj0).nd = d1 at *
        generalize (p.js.getD i pj0).tm = d2 at *
        generalize (p.js.getD i pj0).sa = d3 at *
        generalize (p.js.getD i pj0).en = d4 at *
        generalize (p.js.getD i pj0).st = st at *
        by_cases e1 : (i : Int) = (z : Int)
        · have hs5 : st = 5 := by rw [hst, if_pos (by omega)]
          have e1' : ((i : Int) == (z : Int)) = true := by simpa using e1
          clear hst
          rw [hs5] at he
          subst he
          go_wp2_with fail
          go_roundg (n - (i + 1) + 1)
          case measure => omega
          case rel => exact ⟨i + 1, _, rfl, by omega, rfl, by go_num, HBn _ _⟩
        · have e1' : ((i : Int) == (z : Int)) = false := by simpa using e1
          by_cases e2 : (i : Int) = (nx : Int)
          · have hs5 : st = 2 := by rw [hst, if_neg (by omega), if_neg (by decide), if_pos (by omega)]
            have e2' : ((i : Int) == (nx : Int)) = true := by simpa using e2
            clear hst
            rw [hs5] at he
            subst he
            go_wp2_with fail
            go_roundg (n - (i + 1) + 1)
            case measure => omega
            case rel => exact ⟨i + 1, _, rfl, by omega, rfl, by go_num, HBn _ _⟩
          · have hs5 : st = 0 := by rw [hst, if_neg (by omega), if_neg (by decide), if_neg (by omega)]
            have e2' : ((i : Int) == (nx : Int)) = false := by simpa using e2
            clear hst
            rw [hs5] at he
            subst he
            go_wp2_with fail
            go_roundg (n - (i + 1) + 1)
            case measure => omega
            case rel => exact ⟨i + 1, _, rfl, by omega, rfl, by go_num, HBn _ _⟩
      · have hlt' : ¬ (i : Int) < (n : Int) := by omega
        go_wp2_with fail
        go_ret
        exact ⟨rfl, HB.out⟩
end Go.Proofs.Ytanknpmojblmcab
