/-
  Plain mathematics: the text of a batch that is made, line by line.
-/
import Derived.Test.YtanknpmojblmcaaDoorMathT
import Derived.Test.YtanknpmojblmcaaDoorKWant
set_option linter.unusedSimpArgs false
set_option linter.unusedVariables false
namespace Go.Proofs.YtanknpmojblmcaaDoor

theorem fac_ne' (d : Nat) {W : List UInt8} {p : List UInt8 × Nat} (h : FacP AtomP d W p) : W ≠ [] := by
  cases d with
  | zero => exact h.1.2.1
  | succ d =>
    rcases h with h | ⟨M, rfl, _⟩
    · exact h.1.2.1
    · simp
theorem term_ne {d : Nat} {W : List UInt8} {p : List UInt8 × Nat} (h : TermP (FacP AtomP d) W p) : W ≠ [] := by
  obtain ⟨l, h1, h2, h3, _⟩ := h
  cases l with
  | nil => exact absurd rfl h1
  | cons x r =>
    have := fac_ne' d (h2 x (by simp))
    rw [h3]; intro q
    simp [jnl] at q
    exact this q.1
theorem want_ne {d : Nat} {W : List UInt8} {p : List UInt8 × Nat} (h : WantP (FacP AtomP d) W p) : W ≠ [] := by
  obtain ⟨l, h1, h2, h3, _⟩ := h
  cases l with
  | nil => exact absurd rfl h1
  | cons x r =>
    have := term_ne (h2 x (by simp))
    rw [h3]; intro q
    simp [jnl] at q
    exact this q.1

/-- A plain form of what a head waits for. -/
def PlainOf (m : MV) (P : List UInt8) : Prop := (m.want = [] ∧ P = []) ∨ (m.want ≠ [] ∧ m.want.length ≤ 200 ∧ P ≠ [] ∧ ∃ k, WantP (FacP AtomP 2) m.want (P, k))
def RM (m : MV) (j : JV) : Prop := ∃ P, j = { m.job with after := P } ∧ PlainOf m P

theorem rm_of {m : MV} (hg : GoodM m) (hw : m.want = [] ∨ (m.want ≠ [] ∧ GenT 2 (kL 2) m.want)) : ∃ j, RM m j ∧ j.name = m.job.name ∧ LimOK j ∧ HeadLine (wrL m.job m.want) j ∧ (wrL m.job m.want).length ≤ 115 := by
  have hlen := wrL_len hg.1 m.want
  rcases hw with hw | ⟨hne, ⟨⟨p, hT⟩, hl, _⟩⟩
  · refine ⟨{ m.job with after := [] }, ⟨[], rfl, Or.inl ⟨hw, rfl⟩⟩, rfl, hg.1.lim, head_line hg.1 (Or.inl ⟨hw, rfl⟩), ?_⟩
    rw [hw] at hlen ⊢; simp at hlen; omega
  · have hl : m.want.length ≤ 65 := hl
    obtain ⟨P, k⟩ := p
    have hW : WantP (FacP AtomP 2) m.want (P, k) := hT.want
    have hP := (plain_stable 2 m.want.length m.want (P, k) (Nat.le_refl _) hW).1
    have hPne : P ≠ [] := want_ne hP
    refine ⟨{ m.job with after := P }, ⟨P, rfl, Or.inr ⟨hne, by omega, hPne, k, hW⟩⟩, rfl, hg.1.lim, head_line hg.1 (Or.inr ⟨hne, k, (hW.mono (FacP.up 2)).mono (FacP.up 3)⟩), ?_⟩
    omega

theorem cmd_line {nm : List UInt8} (hc : ∀ c ∈ nm, letB c.toNat = true) : CmdLine ([114, 117, 110, 32] ++ nm) := by
  constructor
  · intro c hm
    rcases List.mem_append.1 hm with q | q
    · clear hm; simp at q; rcases q with rfl | rfl | rfl | rfl <;> decide
    · have := hc c q
      rintro rfl
      revert this; decide
  · intro L i R hd hR
    have e : byt L i = 114 := byt_hdb hd
    simp [seesB, e]

/-- A line that is made: a command's or a head's. -/
def LnOK (t : List UInt8) : Prop := NoNl t ∧ ((∃ u, t = 114 :: u) ∨ ∃ u, t = 35 :: 74 :: u)
theorem wr0_noNl {j : JV} (h : JobOK j) : NoNl (wr0 j) := by
  unfold wr0
  refine noNl_app (noNl_app (noNl_app (noNl_app (noNl_app ?_ (noNl_name h.nm)) ?_) (noNl_dig (by have := h.nodes; omega))) ?_) (noNl_dig (by have := h.time; omega)) <;> (unfold NoNl; decide)
theorem wrA_noNl {j : JV} (h : JobOK j) : NoNl (wrA j) := by
  unfold wrA
  split
  · rename_i ha
    have q := h.arr ha
    refine noNl_app (noNl_app (noNl_app (noNl_app (wr0_noNl h) ?_) (noNl_dig (by omega))) ?_) (noNl_dig (by omega)) <;> (unfold NoNl; decide)
  · exact wr0_noNl h
theorem wrL_noNl {j : JV} (h : JobOK j) {a : List UInt8} (ha : NoNl a) : NoNl (wrL j a) := by
  unfold wrL
  split
  · exact wrA_noNl h
  · exact noNl_app (noNl_app (wrA_noNl h) (by unfold NoNl; decide)) ha
theorem wr0_head (j : JV) : ∃ u, wr0 j = 35 :: 74 :: u := ⟨_, rfl⟩
theorem wrA_head (j : JV) : ∃ u, wrA j = 35 :: 74 :: u := by
  unfold wrA
  split
  · exact ⟨_, rfl⟩
  · exact wr0_head j
theorem wrL_head (j : JV) (a : List UInt8) : ∃ u, wrL j a = 35 :: 74 :: u := by
  obtain ⟨u, e⟩ := wrA_head j
  unfold wrL
  split
  · exact ⟨u, e⟩
  · rw [e]; exact ⟨_, rfl⟩

/-- The text of a batch behind i of its n heads. -/
structure BtI (on : List (List UInt8)) (n i : Nat) (S : List UInt8) (ns : List MV) (js : List JV) (l : List (List UInt8 × Option JV)) : Prop where
  len : ns.length = i
  jlen : js.length = i
  s1 : i < n → S = phd 10 (l.map Prod.fst)
  s2 : i = n → S = jnl 10 (l.map Prod.fst)
  ok : ∀ x ∈ l, LineOK x
  fm : l.filterMap Prod.snd = js
  rm : ∀ k (h1 : k < ns.length) (h2 : k < js.length), RM ns[k] js[k]
  good : ∀ x ∈ ns, GoodM x
  names : js.map (·.name) = on.take i
  lim : ∀ j ∈ js, LimOK j
  size : S.length ≤ 130 * i
  lns : ∀ x ∈ l, LnOK x.1
  last : 0 < i → ∃ r u, l.map Prod.fst = r ++ [35 :: 74 :: u]

theorem phd_append (c : UInt8) (a b : List (List UInt8)) : phd c (a ++ b) = phd c a ++ phd c b := by
  induction a with
  | nil => rfl
  | cons w r ih => simp [phd, ih]

theorem BtI.zero (on : List (List UInt8)) {n : Nat} (hn : 0 < n) : BtI on n 0 [] [] [] [] :=
  ⟨rfl, rfl, fun _ => rfl, fun h => by omega, by simp, rfl, by intro k h1; simp at h1, by simp, by simp, by simp, by simp, by simp, fun h => by omega⟩

/-- What one turn adds: a command's line, if any, and its end; the head's line; its end, if another comes. -/
def cmdT (c : Bool) (nm : List UInt8) : List UInt8 := if c then [114, 117, 110, 32] ++ nm ++ [10] else []
def endT (b : Bool) : List UInt8 := if b then [10] else []

theorem BtI.step {on : List (List UInt8)} {n i : Nat} {S : List UInt8} {ns : List MV} {js : List JV} {l : List (List UInt8 × Option JV)} (B : BtI on n i S ns js l) (hi : i < n) (hon : i < on.length) (hnm : ∀ c ∈ on[i], letB c.toNat = true) (hn6 : on[i].length ≤ 6)
    {m : MV} (hg : GoodM m) (hname : m.job.name = on[i]) (hw : m.want = [] ∨ (m.want ≠ [] ∧ GenT 2 (kL 2) m.want)) (c : Bool) :
    ∃ js' l', BtI on n (i + 1) (S ++ cmdT c on[i] ++ wrL m.job m.want ++ endT (decide (i + 1 < n))) (ns ++ [m]) js' l' := by
  obtain ⟨j, r1, r2, r3, r4, r5⟩ := rm_of hg hw
  have hS := B.s1 hi
  refine ⟨js ++ [j], l ++ (if c then [([114, 117, 110, 32] ++ on[i], none)] else []) ++ [(wrL m.job m.want, some j)], ?_⟩
  have ecmd : phd 10 ((l ++ (if c then [([114, 117, 110, 32] ++ on[i], none)] else [])).map Prod.fst) = S ++ cmdT c on[i] := by
    rw [List.map_append, phd_append, ← hS]
    cases c <;> simp [cmdT, phd]
  have hz : NoNl m.want := by
    rcases hw with hw | ⟨_, _, _, z⟩
    · rw [hw]; intro c hc; cases hc
    · exact z
  refine ⟨by simp [B.len], by simp [B.jlen], ?_, ?_, ?_, ?_, ?_, ?_, ?_, ?_, ?_, ?_, ?_⟩
  · intro h
    rw [List.map_append, phd_append, ecmd]
    simp [phd, endT, h]
  · intro h
    have h2 : ¬ i + 1 < n := by omega
    rw [List.map_append]
    have := jnl_one 10 ((l ++ (if c then [([114, 117, 110, 32] ++ on[i], none)] else [])).map Prod.fst) (wrL m.job m.want) []
    simp only [List.map_cons, List.map_nil]
    rw [this, ecmd]
    simp [ptl, endT, h2]
  · intro x hx
    rcases List.mem_append.1 hx with hx | hx
    · rcases List.mem_append.1 hx with hx | hx
      · exact B.ok x hx
      · cases c with
        | false => simp at hx
        | true =>
          simp at hx; subst hx
          exact Or.inl ⟨rfl, cmd_line hnm⟩
    · simp at hx; subst hx
      exact Or.inr ⟨j, rfl, r4⟩
  · rw [List.filterMap_append, List.filterMap_append, B.fm]
    cases c <;> simp
  · intro k h1 h2
    by_cases hk : k < ns.length
    · have hk2 : k < js.length := by have := B.len; have := B.jlen; omega
      rw [List.getElem_append_left hk, List.getElem_append_left hk2]
      exact B.rm k hk hk2
    · have e1 : k = ns.length := by simp at h1; omega
      have e2 : ns.length = js.length := by rw [B.len, B.jlen]
      subst e1
      rw [List.getElem_append_right (by omega), List.getElem_append_right (by omega)]
      simpa [e2] using r1
  · intro x hx
    rcases List.mem_append.1 hx with hx | hx
    · exact B.good x hx
    · simp at hx; subst hx; exact hg
  · rw [List.map_append, B.names, List.take_succ_eq_append_getElem hon]
    simp [r2, hname]
  · intro x hx
    rcases List.mem_append.1 hx with hx | hx
    · exact B.lim x hx
    · simp at hx; subst hx; exact r3
  · have := B.size
    have e1 : (cmdT c on[i]).length ≤ 11 := by
      cases c <;> simp [cmdT]; omega
    have e2 : (endT (decide (i + 1 < n))).length ≤ 1 := by
      unfold endT; split <;> simp
    simp only [List.length_append]
    omega
  · intro x hx
    rcases List.mem_append.1 hx with hx | hx
    · rcases List.mem_append.1 hx with hx | hx
      · exact B.lns x hx
      · cases c with
        | false => simp at hx
        | true =>
          simp at hx; subst hx
          exact ⟨(cmd_line hnm).1, Or.inl ⟨_, rfl⟩⟩
    · simp at hx; subst hx
      exact ⟨wrL_noNl hg.1 hz, Or.inr (wrL_head _ _)⟩
  · intro _
    obtain ⟨u, e⟩ := wrL_head m.job m.want
    rw [List.map_append]
    exact ⟨_, u, by rw [← e]; rfl⟩

/-- The names of a batch. -/
def onL (k n : Nat) : List (List UInt8) := (List.range n).map fun i => nameL ((k + i) % 5)
theorem onL_len (k n : Nat) : (onL k n).length = n := by simp [onL]
theorem onL_get (k n i : Nat) (h : i < (onL k n).length) : (onL k n)[i] = nameL ((k + i) % 5) := by simp [onL]
theorem nameL_ok (k : Nat) : (∀ c ∈ nameL k, letB c.toNat = true) ∧ 1 ≤ (nameL k).length ∧ (nameL k).length ≤ 6 := by
  match k with
  | 0 => exact ⟨by decide, by decide, by decide⟩
  | 1 => exact ⟨by decide, by decide, by decide⟩
  | 2 => exact ⟨by decide, by decide, by decide⟩
  | 3 => exact ⟨by decide, by decide, by decide⟩
  | n + 4 => exact ⟨by show ∀ c ∈ ([111, 107] : List UInt8), letB c.toNat = true; decide, by show 1 ≤ ([111, 107] : List UInt8).length; decide, by show ([111, 107] : List UInt8).length ≤ 6; decide⟩
theorem onL_nodup {k n : Nat} (hk : k < 5) (hn : n ≤ 3) : (onL k n).Nodup := by
  have h1 : k = 0 ∨ k = 1 ∨ k = 2 ∨ k = 3 ∨ k = 4 := by omega
  have h2 : n = 0 ∨ n = 1 ∨ n = 2 ∨ n = 3 := by omega
  rcases h1 with rfl | rfl | rfl | rfl | rfl <;> rcases h2 with rfl | rfl | rfl | rfl <;> decide

/-- A whole batch is read as it was written. -/
theorem BtI.reads {k n : Nat} {S : List UInt8} {ns : List MV} {js : List JV} {l : List (List UInt8 × Option JV)} (hk : k < 5) (hn : n ≤ 3) (hn0 : 0 < n) (B : BtI (onL k n) n n S ns js l) : readJ S = js ∧ (readH S).2 = (0, 0) := by
  have hj : js ≠ [] := by intro q; have := B.jlen; rw [q] at this; simp at this; omega
  refine read_lines (l := l) (B.s2 rfl) ?_ B.ok B.fm hj B.lim ?_ ?_
  · intro q; have := B.fm; rw [q] at this; simp at this; exact hj this
  · rw [B.names, List.take_of_length_le (by rw [onL_len]; exact Nat.le_refl _)]
    exact onL_nodup hk hn
  · have := B.size; omega

/-- What again asks of each head. -/
theorem rm_again {m : MV} {j : JV} (hg : GoodM m) (h : RM m j) : (m.want = [] ∧ j.after = []) ∨ (m.want ≠ [] ∧ j.after ≠ [] ∧ AgainOK j m.want) := by
  obtain ⟨P, rfl, hP⟩ := h
  rcases hP with ⟨h1, h2⟩ | ⟨h1, h2, h3, k, hW⟩
  · exact Or.inl ⟨h1, h2⟩
  · refine Or.inr ⟨h1, h3, ?_⟩
    refine again_ok (j := { m.job with after := P }) ?_ hW h2 rfl h3
    exact ⟨hg.1.nm, hg.1.nm1, hg.1.nm6, hg.1.nodes, hg.1.time, hg.1.arr, hg.1.no⟩

end Go.Proofs.YtanknpmojblmcaaDoor
