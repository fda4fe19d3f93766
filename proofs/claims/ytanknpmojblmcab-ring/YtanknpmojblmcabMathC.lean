/-
  Plain mathematics: the reader of the program and the stations of the document's answer go together: heads, lines, the whole text.
-/
import Derived.Test.YtanknpmojblmcabMathB
set_option linter.unusedSimpArgs false
set_option linter.unusedVariables false
namespace Go.Proofs.Ytanknpmojblmcab

/-- Behind a head: the text or the line may end here, and nothing else may stand here. -/
def HE (L : List UInt8) (h : Nat) (st : ST) (i : Nat) : Prop :=
  st.hd = h ∧ wholeB st = true ∧ (i < L.length → (byt L i = 10 → stepO st (byt L i) = some (goS st 0 0)) ∧ (byt L i ≠ 10 → stepO st (byt L i) = none))

theorem FacEnd.he {L : List UInt8} {h j : Nat} {st : ST} (q : FacEnd L 0 h st j) (hh : h ≠ 0) (h38 : sk L 38 (j, false) = false) (h124 : sk L 124 (j, false) = false) : HE L h st j := by
  refine ⟨q.2.1, by rw [q.whole hh]; rfl, fun hl => ?_⟩
  have b2 := sk_byt h38 hl; have b3 := sk_byt h124 hl
  have h1 := q.1
  constructor
  · intro hb
    rw [q.step, hb]; unfold behindO
    rw [if_neg (by omega), if_neg (by omega), if_pos ⟨rfl, h1⟩]
  · intro hb
    rw [q.step]; unfold behindO
    rw [if_neg (by omega), if_neg (by omega), if_neg (by omega)]

/-- At a number of the kind w, behind its digits. -/
structure NumAt (L : List UInt8) (w h : Nat) (st : ST) (i : Nat) : Prop where
  wh : st.wh = 5
  which : st.which = w
  op : st.op = 0
  hd : st.hd = h
  stop : NumEnd L st i
theorem NumAt.step {L : List UInt8} {w h : Nat} {st : ST} {i : Nat} (q : NumAt L w h st i) : stepO st (byt L i) =
    if w = 0 then begunO st 2 (byt L i) else if w = 2 then begunO st 5 (byt L i) else if w = 4 then begunO st 12 (byt L i) else if byt L i = 10 then some (goS st 0 0) else if w = 1 then begunO st 3 (byt L i) else begunO st 6 (byt L i) := by
  have h1 := q.wh; have h2 := q.which; have h3 := q.stop
  unfold stepO
  rw [if_neg (by omega), if_neg (by omega), if_pos h1]
  unfold numberO
  rw [if_neg (by
    rintro ⟨a, b | ⟨b, c⟩⟩
    · have := h3.1; omega
    · exact h3.2 ⟨a, b, c⟩), if_neg (by have := h3.1; omega), h2]
theorem begun_no {st : ST} {w c : Nat} (h : byt (pieceL w) 0 ≠ c) : begunO st w c = none := litO_no (by simpa [goS] using h)
theorem begun_yes {st : ST} {w c : Nat} (h0 : 1 < (pieceL w).length) (h : byt (pieceL w) 0 = c) : begunO st w c = some { goS st 3 w with k := 1 } := by
  unfold begunO
  rw [litO_yes (by simpa [goS] using (by omega : 0 < (pieceL w).length)) (by simpa [goS] using h)]
  unfold litTo
  rw [if_pos (by simpa [goS] using h0)]; rfl
theorem NumAt.he {L : List UInt8} {w h j : Nat} {st : ST} (q : NumAt L w h st j) (hw : w = 1 ∨ w = 3) (hh : h ≠ 0) (h32 : sk L 32 (j, false) = false) : HE L h st j := by
  refine ⟨q.hd, ?_, fun hl => ?_⟩
  · unfold wholeB
    have h1 := q.wh; have h2 := q.which; have h3 := q.stop.1; have h4 := q.hd
    rcases hw with rfl | rfl <;> simp [h1, h2, h4, hh] <;> omega
  · have hb := sk_byt h32 hl
    have hs := q.step
    constructor
    · intro hn; rw [hs]; rcases hw with rfl | rfl <;> simp [hn]
    · intro hn; rw [hs]
      have e3 : begunO st 3 (byt L j) = none := begun_no (by show (32 : Nat) ≠ _; exact fun q => hb q.symm)
      have e6 : begunO st 6 (byt L j) = none := begun_no (by show (32 : Nat) ≠ _; exact fun q => hb q.symm)
      rcases hw with rfl | rfl <;> simp [hn, e3, e6]

theorem sim_numAt {L : List UInt8} {w h : Nat} {st : ST} {i : Nat} (h1 : st.wh = 5) (h2 : st.which = w) (h3 : st.op = 0) (h4 : st.hd = h) (hk : st.k = 0) (hi : i ≤ L.length) :
    Sim L st i (numS L (i, false)) (fun st' => NumAt L w h st' (numS L (i, false)).1) := by
  refine (sim_num h1 hk hi).mono ?_
  rintro st' hf ⟨⟨k, no, rfl⟩, hn⟩
  exact ⟨h1, h2, h3, h4, hn⟩

theorem sim_aft {L : List UInt8} {h j : Nat} {st : ST} {hv : HV} (hh : h ≠ 0) (hj : j ≤ L.length)
    (hs : Sim L st j (wd L [102, 116, 101, 114, 61] (j, false)) (fun st' => st'.wh = 7 ∧ st'.op = 0 ∧ st'.hd = h)) :
    Sim L st j (aftH L hv (j, false)).2 (fun st' => HE L h st' (aftH L hv (j, false)).2.1) := by
  have e : (aftH L hv (j, false)).2 = (wantF L (fac L 4) (wd L [102, 116, 101, 114, 61] (j, false))).2 := rfl
  rw [e]
  have hg := wd_goes L [102, 116, 101, 114, 61] (j, false) hj
  refine hs.then (fun s => (wantF L (fac L 4) s).2) (wantF_fail (fac_fail L 4)) ?_
  rintro st1 hf ⟨q1, q2, q3⟩
  have es : wd L [102, 116, 101, 114, 61] (j, false) = ((wd L [102, 116, 101, 114, 61] (j, false)).1, false) := Prod.ext rfl hf
  rw [es]
  have hw := sim_want L h hh st1 (wd L [102, 116, 101, 114, 61] (j, false)).1 q1 q2 q3 hg.2
  refine hw.mono ?_
  rintro st2 hf2 ⟨r1, r2, r3⟩
  have es2 : (wantF L (fac L 4) ((wd L [102, 116, 101, 114, 61] (j, false)).1, false)).2 = ((wantF L (fac L 4) ((wd L [102, 116, 101, 114, 61] (j, false)).1, false)).2.1, false) := Prod.ext rfl hf2
  rw [es2] at r2 r3
  exact r1.he hh r2 r3

theorem aftH_fail (L : List UInt8) (hv : HV) (j : Nat) : (aftH L hv (j, true)).2 = (j, true) := by
  show (wantF L (fac L 4) (wd L [102, 116, 101, 114, 61] (j, true))).2 = _
  rw [wd_fail]; exact wantF_fail (fac_fail L 4) j
theorem arrH_fail (L : List UInt8) (hv : HV) (j : Nat) : (arrH L hv (j, true)).2 = (j, true) := by
  show numS L (wd L [45] (numS L (j, true))) = _
  rw [numS_fail, wd_fail, numS_fail]
theorem optH_fail (L : List UInt8) (hv : HV) (j : Nat) : (optH L hv (j, true)).2 = (j, true) := by simp [optH, sk]

theorem sim_arr {L : List UInt8} {h j : Nat} {st : ST} {hv : HV} (h1 : st.wh = 5) (h2 : st.which = 2) (h3 : st.op = 0) (h4 : st.hd = h) (hk : st.k = 0) (hj : j ≤ L.length) :
    Sim L st j (arrH L hv (j, false)).2 (fun st' => NumAt L 3 h st' (arrH L hv (j, false)).2.1) := by
  have a := sim_numAt h1 h2 h3 h4 hk hj
  have hg1 := numS_goes L (j, false) hj
  have b : Sim L st j (wd L [45] (numS L (j, false))) (fun st' => st'.wh = 5 ∧ st'.which = 3 ∧ st'.op = 0 ∧ st'.hd = h ∧ st'.k = 0) := by
    refine a.then (wd L [45]) (wd_fail L [45]) ?_
    rintro st1 hf q
    have es : numS L (j, false) = ((numS L (j, false)).1, false) := Prod.ext rfl hf
    rw [es]
    refine (sim_begun (w := 5) (c := 45) (W := []) (R := []) hg1.2 rfl (by intro _; rw [q.step]; simp) (by intro _; unfold wholeB; simp [q.wh, q.which])).mono ?_
    rintro st2 hf2 rfl
    exact ⟨rfl, rfl, q.op, q.hd, rfl⟩
  have hg2 := wd_goes L [45] _ hg1.2
  show Sim L st j (numS L (wd L [45] (numS L (j, false)))) (fun st' => NumAt L 3 h st' (numS L (wd L [45] (numS L (j, false)))).1)
  refine b.then (numS L) (numS_fail L) ?_
  rintro st1 hf ⟨q1, q2, q3, q4, q5⟩
  have es : wd L [45] (numS L (j, false)) = ((wd L [45] (numS L (j, false))).1, false) := Prod.ext rfl hf
  rw [es]
  exact sim_numAt q1 q2 q3 q4 q5 hg2.2

theorem whole6 {s : ST} (h : s.wh = 6) : wholeB s = false := by unfold wholeB; simp [h]

theorem sim_opt {L : List UInt8} {h j : Nat} {st : ST} {hv : HV} (hh : h ≠ 0) (hj : j ≤ L.length) (q : NumAt L 1 h st j) :
    Sim L st j (optH L hv (j, false)).2 (fun st' => HE L h st' (optH L hv (j, false)).2.1) := by
  cases hs : sk L 32 (j, false) with
  | false =>
    have e : optH L hv (j, false) = (hv, (j, false)) := by simp [optH, hs]
    rw [e]
    exact Sim.go rfl (q.he (Or.inl rfl) hh hs)
  | true =>
    have hk := sk_lt hs
    have hl : j < L.length := hk.1
    have hb : byt L j = 32 := hk.2.2
    have hst : stepO st (byt L j) = some { goS st 3 3 with k := 1 } := by rw [q.step, hb]; simp; exact begun_yes (by decide) rfl
    have hpl := pl_step hl hst
    have e : optH L hv (j, false) = if pk L (wd L [97] (j + 1, false)) = 114 then
      if sk L 32 (arrH L hv (wd L [114, 114, 97, 121, 61] (wd L [97] (j + 1, false)))).2 then
        aftH L (arrH L hv (wd L [114, 114, 97, 121, 61] (wd L [97] (j + 1, false)))).1 (wd L [97] ((arrH L hv (wd L [114, 114, 97, 121, 61] (wd L [97] (j + 1, false)))).2.1 + 1, (arrH L hv (wd L [114, 114, 97, 121, 61] (wd L [97] (j + 1, false)))).2.2))
      else arrH L hv (wd L [114, 114, 97, 121, 61] (wd L [97] (j + 1, false)))
    else aftH L hv (wd L [97] (j + 1, false)) := by simp [optH, hs]
    have a := sim_lit L [] 97 [] { goS st 3 3 with k := 1 } (j + 1) rfl (by omega) rfl
    have hg1 := wd_goes L [97] (j + 1, false) (by show j + 1 ≤ _; omega)
    have key : Sim L { goS st 3 3 with k := 1 } (j + 1) (optH L hv (j, false)).2 (fun st' => HE L h st' (optH L hv (j, false)).2.1) := by
      rw [e]
      generalize wd L [97] (j + 1, false) = s1 at *
      obtain ⟨j1, f1⟩ := s1
      rcases a with ⟨x, y⟩ | ⟨x, st1, y, rfl⟩
      · simp only at x y; subst x
        have e2 : pk L (j1, true) = 0 := by simp [pk]
        rw [e2, if_neg (by decide), aftH_fail]
        exact Sim.fail y
      · simp only at x y; subst x
        have hj1 : j1 ≤ L.length := hg1.2
        refine Sim.from' y ?_
        by_cases hr : pk L (j1, false) = 114
        · rw [if_pos hr]
          obtain ⟨-, hl1⟩ := pk_40' hr (by decide)
          have hb1 : byt L j1 = 114 := by simpa [pk] using hr
          have b := sim_begun (L := L) (st := litTo { goS st 3 3 with k := 1 } (([] : List UInt8).length + 1)) (i := j1) (w := 4) (c := 114) (W := [114, 97, 121, 61]) (R := []) hj1 rfl
            (by intro _; rw [hb1]; rfl) (by intro _; exact whole6 rfl)
          have hg2 := wd_goes L [114, 114, 97, 121, 61] (j1, false) hj1
          have c : Sim L (litTo { goS st 3 3 with k := 1 } (([] : List UInt8).length + 1)) j1 (arrH L hv (wd L [114, 114, 97, 121, 61] (j1, false))).2 (fun st' => NumAt L 3 h st' (arrH L hv (wd L [114, 114, 97, 121, 61] (j1, false))).2.1) := by
            refine b.then (fun s => (arrH L hv s).2) (arrH_fail L hv) ?_
            rintro st2 hf2 rfl
            have es : wd L [114, 114, 97, 121, 61] (j1, false) = ((wd L [114, 114, 97, 121, 61] (j1, false)).1, false) := Prod.ext rfl hf2
            rw [es]
            exact sim_arr rfl rfl q.op q.hd rfl hg2.2
          have hg3 := arrH_goes L hv _ hg2.2
          generalize arrH L hv (wd L [114, 114, 97, 121, 61] (j1, false)) = r at *
          obtain ⟨hv2, j2, f2⟩ := r
          rcases c with ⟨x2, y2⟩ | ⟨x2, st2, y2, q2⟩
          · simp only at x2 y2; subst x2
            have e3 : sk L 32 (j2, true) = false := by simp [sk]
            simp only
            rw [e3, if_neg (by decide)]
            exact Sim.fail y2
          · simp only at x2 y2 q2; subst x2
            simp only
            have hj2 : j2 ≤ L.length := hg3.2
            refine Sim.from' y2 ?_
            cases hs2 : sk L 32 (j2, false) with
            | false =>
              rw [if_neg (by decide)]
              exact Sim.go rfl (q2.he (Or.inr rfl) hh hs2)
            | true =>
              rw [if_pos rfl]
              have hk2 := sk_lt hs2
              have hl2 : j2 < L.length := hk2.1
              have hb2 : byt L j2 = 32 := hk2.2.2
              have hst2 : stepO st2 (byt L j2) = some { goS st2 3 6 with k := 1 } := by rw [q2.step, hb2]; simp; exact begun_yes (by decide) rfl
              refine Sim.from' (pl_step hl2 hst2) ?_
              have d := sim_lit L [] 97 [102, 116, 101, 114, 61] { goS st2 3 6 with k := 1 } (j2 + 1) rfl (by omega) rfl
              have hg4 := wd_goes L [97] (j2 + 1, false) (by show j2 + 1 ≤ _; omega)
              refine d.then' (fun s => (aftH L hv2 s).2) (aftH_fail L hv2) (fun st' s => HE L h st' s.1) ?_
              rintro st3 hf3 rfl
              refine sim_aft hh hg4.2 ?_
              refine (sim_lit L [116, 101, 114, 61] 102 [] (litTo { goS st2 3 6 with k := 1 } (([] : List UInt8).length + 1)) (wd L [97] (j2 + 1, false)).1 rfl hg4.2 rfl).mono ?_
              rintro st4 hf4 rfl
              exact ⟨rfl, q2.op, q2.hd⟩
        · rw [if_neg hr]
          refine sim_aft hh hj1 ?_
          have hb1 : byt L j1 ≠ 114 := by simpa [pk] using hr
          refine (sim_begun (L := L) (st := litTo { goS st 3 3 with k := 1 } (([] : List UInt8).length + 1)) (i := j1) (w := 7) (c := 102) (W := [116, 101, 114, 61]) (R := []) hj1 rfl
            (by intro _; show optionO _ _ = _; unfold optionO; rw [if_neg hb1]) (by intro _; exact whole6 rfl)).mono ?_
          rintro st4 hf4 rfl
          exact ⟨rfl, q.op, q.hd⟩
    exact Sim.from' hpl key

end Go.Proofs.Ytanknpmojblmcab
