/-
  A want that is made: a term.
-/
import Derived.Test.YtanknpmojblmcaaDoorKAtom
set_option linter.unusedSimpArgs false
set_option linter.unusedVariables false
namespace Go.Proofs.YtanknpmojblmcaaDoor
open Go.RowKit

/-- A term of depth d, of at most n bytes. -/
def GenT (d n : Nat) (t : List UInt8) : Prop := (∃ p, TermP (FacP AtomP d) t p) ∧ t.length ≤ n ∧ NoNl t
theorem fac_leaf (d : Nat) {t : List UInt8} (h : AtomT t) : FacP AtomP d t (t, 1) := by
  cases d with
  | zero => exact ⟨⟨h.l, h.a⟩, rfl⟩
  | succ d => exact Or.inl ⟨⟨h.l, h.a⟩, rfl⟩
theorem term_one {F : List UInt8 → List UInt8 × Nat → Prop} {V : List UInt8} {p : List UInt8 × Nat} (h : F V p) : TermP F V p :=
  ⟨[(V, p)], by simp, by intro x hx; simp at hx; subst hx; exact h, by simp [jnl, ptl], by simp [termV]⟩
theorem gen_atom (d : Nat) {n : Nat} (hn : 14 ≤ n) {t : List UInt8} (h : AtomT t) : GenT d n t := ⟨⟨_, term_one (fac_leaf d h)⟩, by have := h.n; omega, h.z⟩
theorem gen_or {d n : Nat} {s t : List UInt8} (hs : GenT d n s) (ht : GenT d n t) : GenT (d + 1) (2 * n + 3) ([40] ++ s ++ [124] ++ t ++ [41]) := by
  obtain ⟨⟨p, hp⟩, l1, z1⟩ := hs
  obtain ⟨⟨q, hq⟩, l2, z2⟩ := ht
  refine ⟨⟨_, term_one (F := FacP AtomP (d + 1)) (Or.inr ⟨s ++ 124 :: t, by simp, ⟨[(s, p), (t, q)], by simp, ?_, by simp [jnl, ptl], rfl⟩⟩)⟩, by simp; omega, noNl_app (noNl_app (noNl_app (noNl_app (by unfold NoNl; decide) z1) (by unfold NoNl; decide)) z2) (by unfold NoNl; decide)⟩
  intro x hx
  simp at hx
  rcases hx with rfl | rfl
  · exact hp
  · exact hq
theorem gen_and {d n : Nat} {s t : List UInt8} (hs : GenT d n s) (ht : GenT d n t) : GenT (d + 1) (2 * n + 3) ([40] ++ s ++ [41, 38] ++ t) := by
  obtain ⟨⟨p, hp⟩, l1, z1⟩ := hs
  obtain ⟨⟨q, l, h1, h2, h3, h4⟩, l2, z2⟩ := ht
  refine ⟨⟨_, ⟨(40 :: (s ++ [41]), p) :: l, by simp, ?_, ?_, rfl⟩⟩, by simp; omega, noNl_app (noNl_app (noNl_app (by unfold NoNl; decide) z1) (by unfold NoNl; decide)) z2⟩
  · intro x hx
    rcases List.mem_cons.1 hx with rfl | hx
    · exact Or.inr ⟨s, rfl, hp.want⟩
    · exact FacP.up d _ _ (h2 x hx)
  · cases l with
    | nil => exact absurd rfl h1
    | cons y z => rw [h3]; simp [jnl, ptl]

/-- How many parts and bytes. -/
def kP : Nat → Nat
  | 0 => 13
  | d + 1 => 2 * kP d + 1
def kL : Nat → Nat
  | 0 => 14
  | d + 1 => 2 * kL d + 3

def WantOK (d : Nat) : Prop := ∀ (b f h : Nat) (v : Value) (bn bj : Nat) (ms : List MV) (ov : Value) (on : List (List UInt8)) (m : MV) (c : Nat) (w : World), Env b f h v bn bj ms ov on m c w → c + kP d ≤ 150 → ms.length ≤ 6 → on.length ≤ 3 → (∀ x ∈ ms, GoodM x) → m.batch ≤ 100 →
    Calls Tryd.prog 15 #[.pointer (some ⟨b, 0, none⟩), .pointer (some ⟨f, 0, none⟩), .int .i64 (d : Int), .int .i64 (ms.length : Int), ov, .pointer (some ⟨h, 0, none⟩)] w (AtmR b f h v bn bj ms ov on m (c + kP d) w (GenT d (kL d)))

theorem kP_13 (d : Nat) : 13 ≤ kP d := by
  induction d with
  | zero => exact Nat.le_refl _
  | succ d ih => unfold kP; omega
theorem kL_14 (d : Nat) : 14 ≤ kL d := by
  induction d with
  | zero => exact Nat.le_refl _
  | succ d ih => unfold kL; omega
theorem Pts.up {h : Nat} {m : MV} {c c' : Nat} {w : World} (p : Pts h m c w) (hc : c ≤ c') : Pts h m c' w := by
  obtain ⟨n, xs, hn, ho⟩ := p
  exact ⟨n, xs, by omega, ho⟩
theorem Env.up {b f h : Nat} {v : Value} {bn bj : Nat} {ms : List MV} {ov : Value} {on : List (List UInt8)} {m : MV} {c c' : Nat} {w : World} (E : Env b f h v bn bj ms ov on m c w) (hc : c ≤ c') : Env b f h v bn bj ms ov on m c' w :=
  ⟨E.bk, E.mr, E.ow, E.fd, E.md, E.pt.up hc, E.bh, E.fh, E.vh, E.oh, E.bf, E.vf, E.of⟩

attribute [local go_sem ↓] Go.wp_at_zero Go.wp_at_succ
set_option maxRecDepth 100000 in
set_option maxHeartbeats 4000000 in
theorem want_zero : WantOK 0 := by
  intro b f h v bn bj ms ov on m c w E hc hl hol hg hmb
  unfold AtmR
  have U0 := Upon.refl f h w
  have hc13 : c + 13 ≤ 150 := hc
  go_enter Tryd.func15, Tryd.ntmps15
  go_wp2_with fail
  refine (next_any f 6 _ E.fd (by omega) (by omega)).mono ?_
  rintro e w1 ⟨k, hk, rfl, hf1, ha1⟩
  have U1 := U0.trans (Upon.aside ha1 (Nat.le_of_lt E.hlt))
  replace E := E.feed ha1 hf1
  clear ha1 hf1
  go_wp2_with fail
  refine (atom_any b f h v bn bj ms ov on m c _ E (by omega) hl hol hg hmb).mono ?_
  rintro e w2 ⟨t, pa, pn, pc, rfl, ht, E2, U2⟩
  go_wp2_with fail
  go_ret
  exact ⟨t, pa, pn, pc, rfl, gen_atom 0 (by decide) ht, E2, U1.trans U2⟩

set_option maxRecDepth 100000 in
set_option maxHeartbeats 4000000 in
theorem want_succ (d : Nat) (hd : d ≤ 3) (ih : WantOK d) : WantOK (d + 1) := by
  intro b f h v bn bj ms ov on m c w E hc hl hol hg hmb
  obtain ⟨i0, hI0, hz0, hz1, hz2⟩ := info_parts infoPart
  unfold AtmR
  have U0 := Upon.refl f h w
  have hP := kP_13 d
  have hkp : kP (d + 1) = 2 * kP d + 1 := rfl
  have HL : Hid (kL (d + 1) = 2 * kL d + 3) := rfl
  have hL14 := kL_14 (d + 1)
  have hLmax : kL d ≤ 200 := by
    have : d = 0 ∨ d = 1 ∨ d = 2 ∨ d = 3 := by omega
    rcases this with rfl | rfl | rfl | rfl <;> decide
  rw [hkp] at hc ⊢
  have hd0 : (((d + 1 : Nat) : Int) == 0) = false := by rw [beq_eq_false_iff_ne]; omega
  have hd1 : ((d + 1 : Nat) : Int) - 1 = (d : Int) := by omega
  have hd2 : (d : Int) + 1 - 1 = (d : Int) := by omega
  have hd3 : ((d : Int) + 1 == 0) = false := by rw [beq_eq_false_iff_ne]; omega
  have HIH : Hid (WantOK d) := ih
  clear ih
  go_enter Tryd.func15, Tryd.ntmps15
  go_wp2_with fail
  refine (next_any f 6 _ E.fd (by omega) (by omega)).mono ?_
  rintro e w1 ⟨k, hk, rfl, hf1, ha1⟩
  have U1 := U0.trans (Upon.aside ha1 (Nat.le_of_lt E.hlt))
  replace E := E.feed ha1 hf1
  clear ha1 hf1 U0
  by_cases hk3 : k < 3
  · have hk3' : (k : Int) < 3 := by omega
    go_wp2_with fail
    refine (atom_any b f h v bn bj ms ov on m c _ E (by omega) hl hol hg hmb).mono ?_
    rintro e w2 ⟨t, pa, pn, pc, rfl, ht, E2, U2⟩
    go_wp2_with fail
    go_ret
    exact ⟨t, pa, pn, pc, rfl, gen_atom (d + 1) hL14 ht, E2.up (by omega), U1.trans U2⟩
  · have hk3' : decide ((k : Int) < 3) = false := by simp; omega
    go_wp2_with fail
    refine (HIH.out b f h v bn bj ms ov on m c _ E (by omega) hl hol hg hmb).mono ?_
    rintro e w2 ⟨s, pa, pn, pc, rfl, hs, E2, U2⟩
    replace U2 := U1.trans U2
    go_wp2_with fail
    refine (HIH.out b f h v bn bj ms ov on { m with pa := pa, pn := pn, pc := pc } (c + kP d) _ E2 (by omega) hl hol hg hmb).mono ?_
    rintro e w3 ⟨t, pa3, pn3, pc3, rfl, ht, E3, U3⟩
    replace U3 := U2.trans U3
    replace E3 : Env b f h v bn bj ms ov on { m with pa := pa3, pn := pn3, pc := pc3 } (c + kP d + kP d) w3 := E3
    have HOR : Hid (GenT (d + 1) (kL (d + 1)) ([40] ++ s ++ [124] ++ t ++ [41])) := gen_or hs ht
    have HAN : Hid (GenT (d + 1) (kL (d + 1)) ([40] ++ s ++ [41, 38] ++ t)) := gen_and hs ht
    have ls := hs.2
    have lt := ht.2
    have zs := bs_size s
    have zt := bs_size t
    clear hs ht E2 U2 U1 E
    obtain ⟨n', xs', hn', hown⟩ := E3.pt
    have md := E3.md
    have hhl := md.lt
    have h11 := md.c 11; have z11 := md.z 11
    simp [mvC] at h11
    have hkk : kP d ≤ 75 := by omega
    by_cases hk5 : k = 5
    · subst hk5
      go_wp2_with (at_builtin; refine wpList_append_lies _ rfl _ _ 33 rfl (h + 1) 65 i0 (.agg #[.int .i64 0, .int .i64 0, .int .i64 0]) 3 24 Tryd.underlying33 hI0 hz0 hz1 hz2 rfl (by decide) _ n' xs' rfl (hown.alloc _) ⟨w3.heap.size, 0, none⟩ 1 1 [.int .i64 6, .int .i64 0, .int .i64 0] rfl rfl (World.news_of_block (cs := #[.int .i64 6, .int .i64 0, .int .i64 0]) (t := 65) (fr := (0, 0)) (heap_alloc_new w3 _)) ?c2 (by decide) ?c3 ?c4 ?c5 _ rfl ?_)
      case c2 => first | exact ⟨rfl, rfl⟩ | (intro u hu; simp at hu; rcases hu with rfl | rfl <;> rfl)
      case c3 => unfold maxLen; omega
      case c4 => omega
      case c5 => first | omega | (simp; omega)
      intro g4 cap4 w4 hown4 hgrow4 hat4 hlt4
      obtain ⟨q1, _, q3, q4, q5⟩ := parts_grow (md.alloc _) (hown.alloc _) hgrow4 hown4
      replace q5 := ((Below.refl h w3).alloc (by omega) _).trans q5
      have y11 := q1.c 11; have yz := q1.z 11
      simp [mvC] at y11
      clear hgrow4 hown4 hat4 hlt4 q1 hown h11 z11
      go_wp2_with fail
      go_ret
      exact ⟨[40] ++ s ++ [124] ++ t ++ [41], ret_str (by rw [← bs_append, ← bs_append, ← bs_append, ← bs_append]; rfl), HOR.out, ⟨some ⟨g4, 0, none⟩, n' + 1, cap4, E3.next q5 q3 ⟨n' + 1, _, by omega, q4⟩⟩, U3.trans (Upon.below q5)⟩
    · have hk5' : ((k : Int) == 5) = false := by rw [beq_eq_false_iff_ne]; omega
      go_wp2_with (at_builtin; refine wpList_append_lies _ rfl _ _ 33 rfl (h + 1) 65 i0 (.agg #[.int .i64 0, .int .i64 0, .int .i64 0]) 3 24 Tryd.underlying33 hI0 hz0 hz1 hz2 rfl (by decide) _ n' xs' rfl (hown.alloc _) ⟨w3.heap.size, 0, none⟩ 1 1 [.int .i64 5, .int .i64 0, .int .i64 0] rfl rfl (World.news_of_block (cs := #[.int .i64 5, .int .i64 0, .int .i64 0]) (t := 65) (fr := (0, 0)) (heap_alloc_new w3 _)) ?c2 (by decide) ?c3 ?c4 ?c5 _ rfl ?_)
      case c2 => first | exact ⟨rfl, rfl⟩ | (intro u hu; simp at hu; rcases hu with rfl | rfl <;> rfl)
      case c3 => unfold maxLen; omega
      case c4 => omega
      case c5 => first | omega | (simp; omega)
      intro g4 cap4 w4 hown4 hgrow4 hat4 hlt4
      obtain ⟨q1, _, q3, q4, q5⟩ := parts_grow (md.alloc _) (hown.alloc _) hgrow4 hown4
      replace q5 := ((Below.refl h w3).alloc (by omega) _).trans q5
      have y11 := q1.c 11; have yz := q1.z 11
      simp [mvC] at y11
      clear hgrow4 hown4 hat4 hlt4 q1 hown h11 z11
      go_wp2_with fail
      go_ret
      exact ⟨[40] ++ s ++ [41, 38] ++ t, ret_str (by rw [← bs_append, ← bs_append, ← bs_append]; rfl), HAN.out, ⟨some ⟨g4, 0, none⟩, n' + 1, cap4, E3.next q5 q3 ⟨n' + 1, _, by omega, q4⟩⟩, U3.trans (Upon.below q5)⟩

/-- A want of depth two. -/
theorem wantB_any : WantOK 2 := want_succ 1 (by omega) (want_succ 0 (by omega) want_zero)

end Go.Proofs.YtanknpmojblmcaaDoor
