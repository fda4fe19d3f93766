/-
  Plain mathematics: a batch that is written so is read so; what again asks.
-/
import Derived.Test.YtanknpmojblmcaaDoorMathS
set_option linter.unusedSimpArgs false
set_option linter.unusedVariables false
namespace Go.Proofs.YtanknpmojblmcaaDoor

/-- A line that is not looked at. -/
def CmdLine (t : List UInt8) : Prop := (∀ c ∈ t, c ≠ 10) ∧ ∀ L i R, L.drop i = t ++ R → EndL R → seesB L i = false
def LineOK (x : List UInt8 × Option JV) : Prop := (x.2 = none ∧ CmdLine x.1) ∨ ∃ jv, x.2 = some jv ∧ HeadLine x.1 jv

theorem takeW {t R : List UInt8} (h : ∀ c ∈ t, c ≠ 10) (hR : EndL R) : (t ++ R).takeWhile (fun c => c != 10) = t := by
  induction t with
  | nil =>
    cases R with
    | nil => rfl
    | cons c r =>
      rcases hR with q | q
      · simp at q
      · simp at q; subst q; rfl
  | cons c t ih =>
    have := h c (by simp)
    rw [List.cons_append, List.takeWhile_cons_of_pos (by simpa using this), ih (fun d hd => h d (by simp [hd]))]
theorem toNl_of {L t R : List UInt8} {i : Nat} (hd : L.drop i = t ++ R) (h : ∀ c ∈ t, c ≠ 10) (hR : EndL R) : toNl L i = i + t.length := by
  unfold toNl; rw [hd, takeW h hR]

theorem hds_lines {L : List UInt8} : ∀ (l : List (List UInt8 × Option JV)) (i n : Nat) (hs : List HV), l ≠ [] → (∀ x ∈ l, LineOK x) → L.drop i = jnl 10 (l.map Prod.fst) → i ≤ L.length → l.length ≤ n →
    ∃ hs', hdsL L n (i, false) hs = (hs ++ hs', (L.length, false)) ∧ hs'.map jobOf = l.filterMap Prod.snd
  | [], i, n, hs, hne, _, _, _, _ => absurd rfl hne
  | x :: r, i, n, hs, hne, hok, hd, hi, hn => by
    obtain ⟨m, rfl⟩ : ∃ m, n = m + 1 := ⟨n - 1, by simp at hn; omega⟩
    have hd0 : L.drop i = x.1 ++ ptl 10 (r.map Prod.fst) := hd
    have hE : EndL (ptl 10 (r.map Prod.fst)) := by
      cases r with
      | nil => exact Or.inl rfl
      | cons y z => exact Or.inr rfl
    have hline : ∃ hs1, lineH L (i, false) hs = (hs ++ hs1, (i + x.1.length, false)) ∧ hs1.map jobOf = (x.2.map fun j => [j]).getD [] := by
      rcases hok x (by simp) with ⟨e, h1, h2⟩ | ⟨jv, e, h⟩
      · refine ⟨[], ?_, by rw [e]; rfl⟩
        unfold lineH
        rw [if_neg (by simp [h2 L i _ hd0 hE])]
        simp [toNl_of hd0 h1 hE]
      · obtain ⟨q1, hv, q2, q3⟩ := h L i _ hd0 hE
        refine ⟨[hv], ?_, by rw [e]; simp [q3]⟩
        unfold lineH
        rw [if_pos q1, q2]
    obtain ⟨hs1, e1, e2⟩ := hline
    have hd1 := drop_more hd0
    cases r with
    | nil =>
      have hL : i + x.1.length = L.length := by
        rcases drop_len hd0 with q | ⟨q1, q2⟩
        · simpa [ptl] using q
        · have := congrArg List.length hd0
          rw [q1] at this ⊢
          simp [ptl] at this ⊢; omega
      have hs2 : sk L 10 (i + x.1.length, false) = false := by
        have e := sk_head (c := 10) hd1 (by decide)
        simpa [ptl] using e
      refine ⟨hs1, ?_, ?_⟩
      · unfold hdsL
        rw [e1]
        simp only
        rw [hs2, hL]; simp
      · rw [e2]
        cases hx : x.2 with
        | none => simp [hx]
        | some j => simp [hx]
    | cons y z =>
      have hd2 : L.drop (i + x.1.length) = 10 :: jnl 10 ((y :: z).map Prod.fst) := hd1
      have hs2 : sk L 10 (i + x.1.length, false) = true := by
        have e := sk_head (c := 10) hd2 (by decide)
        simpa using e
      have hk := (byt_drop hd2).1
      obtain ⟨hs3, e3, e4⟩ := hds_lines (y :: z) (i + x.1.length + 1) m (hs ++ hs1) (by simp) (fun u hu => hok u (by simp at hu ⊢; right; exact hu)) (byt_drop hd2).2.2 (by omega) (by simp at hn ⊢; omega)
      refine ⟨hs1 ++ hs3, ?_, ?_⟩
      · unfold hdsL
        rw [e1]
        simp only
        rw [hs2, if_pos rfl, e3, List.append_assoc]
      · rw [List.map_append, e2, e4]
        cases hx : x.2 with
        | none => simp [hx]
        | some j => simp [hx]

/-- Numbers that may be. -/
def LimOK (j : JV) : Prop := (1 ≤ j.nodes ∧ j.nodes ≤ 8) ∧ (1 ≤ j.time ∧ j.time ≤ 12) ∧ (j.arr = true → j.lo ≤ j.hi ∧ j.hi < j.lo + 6)
theorem JobOK.lim {j : JV} (h : JobOK j) : LimOK j := ⟨h.nodes, h.time, fun e => ⟨(h.arr e).1, (h.arr e).2.1⟩⟩
theorem bey_ok : ∀ (hs : List HV), (∀ h ∈ hs, LimOK (jobOf h)) → beyH hs = (0, false)
  | [], _ => rfl
  | h :: r, q => by
    have a := q h (by simp)
    obtain ⟨⟨a1, a2⟩, ⟨a3, a4⟩, a5⟩ := a
    have a1 : 1 ≤ h.nodes := a1
    have a2 : h.nodes ≤ 8 := a2
    have a3 : 1 ≤ h.time := a3
    have a4 : h.time ≤ 12 := a4
    have a5 : h.arr = true → h.lo ≤ h.hi ∧ h.hi < h.lo + 6 := a5
    unfold beyH
    rw [if_neg (by omega), if_neg (by omega), if_neg (by intro z; have := a5 z.1; omega)]
    exact bey_ok r (fun x hx => q x (by simp [hx]))
theorem twi_ok : ∀ (hs before : List HV), ((before ++ hs).map (·.name)).Nodup → twiH before hs = (0, false)
  | [], _, _ => rfl
  | h :: r, before, q => by
    unfold twiH
    have hno : before.any (fun g => g.name == h.name) = false := by
      rw [List.any_eq_false]
      intro g hg hq
      have e : g.name = h.name := by simpa using hq
      rw [List.map_append, List.nodup_append] at q
      exact q.2.2 g.name (List.mem_map.2 ⟨g, hg, rfl⟩) h.name (by simp) e
    rw [hno, if_neg (by decide)]
    exact twi_ok r (before ++ [h]) (by simpa using q)

theorem read_lines {L : List UInt8} {l : List (List UInt8 × Option JV)} {js : List JV} (hL : L = jnl 10 (l.map Prod.fst)) (hne : l ≠ []) (hok : ∀ x ∈ l, LineOK x) (hjs : l.filterMap Prod.snd = js) (hj : js ≠ [])
    (hlim : ∀ j ∈ js, LimOK j) (hnd : (js.map (·.name)).Nodup) (hlen : L.length ≤ 600) : readJ L = js ∧ (readH L).2 = (0, 0) := by
  have hnl : l.length ≤ L.length + 1 := by
    have q := ptl_len 10 (l.map Prod.fst)
    cases l with
    | nil => exact absurd rfl hne
    | cons x r =>
      rw [hL]
      have q := ptl_len 10 (r.map Prod.fst)
      simp [jnl] at q ⊢; omega
  obtain ⟨hs', e1, e2⟩ := hds_lines (L := L) l 0 (L.length + 1) [] hne hok (by simpa using hL) (Nat.zero_le _) hnl
  have hjs' : hs'.map jobOf = js := e2.trans hjs
  have hne' : hs' ≠ [] := by
    intro q; rw [q] at hjs'; exact hj hjs'.symm
  have hR : hdsR L = (hs', (L.length, false)) := by
    unfold hdsR
    rw [e1]
    simp
    exact hne'
  have hB : beyH hs' = (0, false) := bey_ok hs' (fun h hh => hlim _ (by rw [← hjs']; exact List.mem_map.2 ⟨h, hh, rfl⟩))
  have hT : twiH [] hs' = (0, false) := by
    refine twi_ok hs' [] ?_
    have : hs'.map (·.name) = js.map (·.name) := by rw [← hjs', List.map_map]; rfl
    rw [List.nil_append, this]; exact hnd
  have hH : readH L = (hs', (0, 0)) := by
    unfold readH
    rw [if_neg (by omega), hR]
    simp [hB, hT]
  constructor
  · unfold readJ
    rw [hH]
    simpa using hjs'
  · rw [hH]

theorem one_line {t : List UInt8} {jv : JV} (h : HeadLine t jv) (hl : LimOK jv) (hlen : t.length ≤ 600) : readJ t = [jv] ∧ (readH t).2 = (0, 0) := by
  refine read_lines (l := [(t, some jv)]) (by simp [jnl, ptl]) (by simp) ?_ rfl (by simp) ?_ (by simp) hlen
  · intro x hx
    simp at hx; subst hx
    exact Or.inr ⟨jv, rfl, h⟩
  · intro j hj
    simp at hj; subst hj; exact hl

theorem wrL_len {j : JV} (hj : JobOK j) (a : List UInt8) : (wrL j a).length ≤ 50 + a.length := by
  have h1 := hj.nm6
  have h2 := dig2_len j.nodes
  have h3 := dig2_len j.time
  have h4 := dig2_len j.lo
  have h5 := dig2_len j.hi
  unfold wrL wrA wr0
  split <;> split <;> simp <;> omega

/-- What again asks, of a head that was read with a want. -/
theorem again_ok {j : JV} {W P : List UInt8} {k : Nat} (hj : JobOK j) (hW : WantP (FacP AtomP 2) W (P, k)) (hl : W.length ≤ 200) (haf : j.after = P) (hne : P ≠ []) : AgainOK j W := by
  obtain ⟨hP, hPl⟩ := plain_stable 2 W.length W (P, k) (Nat.le_refl _) hW
  have hPl : P.length ≤ W.length := hPl
  have hP2 : WantP (FacP AtomP 2) P (P, k) := hP
  have up : ∀ {V : List UInt8} {p : List UInt8 × Nat}, WantP (FacP AtomP 2) V p → WantP (FacP AtomP 3) V p := fun h => h.mono (FacP.up 2)
  have up4 : ∀ {V : List UInt8} {p : List UInt8 × Nat}, WantP (FacP AtomP 3) V p → WantP (FacP AtomP 4) V p := fun h => h.mono (FacP.up 3)
  have f3 : FacP AtomP 3 (40 :: (P ++ [41])) (P, k) := Or.inr ⟨P, rfl, hP2⟩
  have one : ∀ {F : List UInt8 → List UInt8 × Nat → Prop} {V : List UInt8} {p : List UInt8 × Nat}, F V p → TermP F V p := by
    intro F V p h
    exact ⟨[(V, p)], by simp, by intro x hx; simp at hx; subst hx; exact h, by simp [jnl, ptl], by simp [termV]⟩
  have w3 : WantP (FacP AtomP 3) (40 :: (P ++ [41])) (P, k) := (one f3).want
  have f4 : FacP AtomP 4 (40 :: ((40 :: (P ++ [41])) ++ [41])) (P, k) := Or.inr ⟨_, rfl, w3⟩
  have w4 : WantP (FacP AtomP 4) (40 :: ((40 :: (P ++ [41])) ++ [41])) (P, k) := (one f4).want
  have f34 : FacP AtomP 4 (40 :: (P ++ [41])) (P, k) := FacP.up 3 _ _ f3
  have wbar : WantP (FacP AtomP 4) (40 :: (P ++ [41]) ++ 124 :: P) (P ++ [124] ++ P, k + k) := by
    obtain ⟨l, a1, a2, a3, a4⟩ := up4 (up hP2)
    refine ⟨(40 :: (P ++ [41]), (P, k)) :: l, by simp, ?_, ?_, ?_⟩
    · intro x hx
      rcases List.mem_cons.1 hx with rfl | hx
      · exact one f34
      · exact a2 x hx
    · cases l with
      | nil => exact absurd rfl a1
      | cons y z =>
        rw [a3]; simp [jnl, ptl]
    · cases l with
      | nil => exact absurd rfl a1
      | cons y z =>
        have b1 : P = jnl 124 (((y :: z).map Prod.snd).map Prod.fst) := congrArg Prod.fst a4
        have b2 : k = (((y :: z).map Prod.snd).map Prod.snd).sum := congrArg Prod.snd a4
        have e1 : wantV (((40 :: (P ++ [41]), (P, k)) :: y :: z).map Prod.snd) = (P ++ (124 :: jnl 124 (((y :: z).map Prod.snd).map Prod.fst)), k + (((y :: z).map Prod.snd).map Prod.snd).sum) := by
          simp [wantV, jnl, ptl]
        rw [e1, ← b1, ← b2]
        simp
  have ej : { j with after := P } = j := by rw [← haf]
  have lim := hj.lim
  obtain ⟨x1, x2⟩ := one_line (head_line hj (W := P) (P := P) (Or.inr ⟨hne, k, up4 (up hP2)⟩)) lim (by have := wrL_len hj P; omega)
  have ly : (wrL j (40 :: ((40 :: (P ++ [41])) ++ [41]))).length ≤ 600 := by
    have q := wrL_len hj (40 :: ((40 :: (P ++ [41])) ++ [41]))
    have e : (40 :: ((40 :: (P ++ [41])) ++ [41]) : List UInt8).length = P.length + 4 := by simp
    omega
  have lz : (wrL j (40 :: (P ++ [41]) ++ 124 :: P)).length ≤ 600 := by
    have q := wrL_len hj (40 :: (P ++ [41]) ++ 124 :: P)
    have e : (40 :: (P ++ [41]) ++ 124 :: P : List UInt8).length = 2 * P.length + 3 := by simp; omega
    omega
  obtain ⟨y1, y2⟩ := one_line (head_line hj (W := 40 :: ((40 :: (P ++ [41])) ++ [41])) (P := P) (Or.inr ⟨by simp, k, w4⟩)) lim ly
  obtain ⟨z1, z2⟩ := one_line (head_line hj (W := 40 :: (P ++ [41]) ++ 124 :: P) (P := P ++ [124] ++ P) (Or.inr ⟨by simp, k + k, wbar⟩)) lim lz
  rw [ej] at x1 y1
  have e1 : [40, 40] ++ j.after ++ [41, 41] = 40 :: ((40 :: (P ++ [41])) ++ [41]) := by rw [haf]; simp
  have e2 : [40] ++ j.after ++ [41, 124] ++ j.after = 40 :: (P ++ [41]) ++ 124 :: P := by rw [haf]; simp
  refine ⟨?_, ?_, ?_, ?_, ?_, ?_, by rw [haf]; exact hPl⟩
  · rw [haf]; exact x1
  · rw [haf]; exact x2
  · rw [e1]; exact y1
  · rw [e1]; exact y2
  · rw [e2, haf]; exact z1
  · rw [e2]; exact z2

end Go.Proofs.YtanknpmojblmcaaDoor
