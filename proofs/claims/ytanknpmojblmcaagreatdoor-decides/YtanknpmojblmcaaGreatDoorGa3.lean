/-
  PlL PlM PlN PlR PlS BtA BtB ReadW BtC, put together.
-/
import Derived.Test.YtanknpmojblmcaaGreatDoorGa2
import Derived.Test.YtanknpmojblmcaaGreatDoorLkO
import Derived.Test.YtanknpmojblmcaaGreatDoorGa1
import Derived.Test.YtanknpmojblmcaaGreatDoorLimits
/-
  Package pool: begin, leave.
-/
set_option linter.unusedSimpArgs false
set_option linter.unusedVariables false
namespace Go.Proofs.YtanknpmojblmcaaGreatDoor
open Go.RowKit

variable {D : Nat → Prop} {s : Nat} {p : PS} {gv jv qv : Value} {w w' : World}

/-- A row of another's grows. -/
theorem SM.grow {row : Option Nat} (h : SM D s p gv jv qv w) (g : w.grownBy w' row) (h1 : row ≠ some s) (h2 : ∀ b, gv.ownBlock = some b → row ≠ some b) (h3 : ∀ b, jv.ownBlock = some b → row ≠ some b) (h4 : ∀ b, qv.ownBlock = some b → row ≠ some b) : SM D s p gv jv qv w' :=
  ⟨(g.block s h.pl.lt (Ne.symm h1)).trans h.pl, owns_same h.gr (fun b hb => g.block b (h.gr.lt b hb).2 (Ne.symm (h2 b hb))), owns_same h.jr (fun b hb => g.block b (h.jr.lt b hb).2 (Ne.symm (h3 b hb))), owns_same h.qr (fun b hb => g.block b (h.qr.lt b hb).2 (Ne.symm (h4 b hb))), h.ds, h.dg, h.dj, h.dq, fun k hk => h.dom k (Nat.le_trans g.size hk)⟩
/-- A row that came later grows. -/
theorem SM.growN {n : Nat} {row : Option Nat} {p0 : PS} {x : World} (h0 : SM D s p0 gv jv qv x) (h : SM D s p gv jv qv w) (g : w.grownBy w' row) (hr : ∀ b, row = some b → x.heap.size ≤ b) : SM D s p gv jv qv w' :=
  h.grow g (fun e => by have := hr _ e; have := h0.pl.lt; omega) (fun b hb e => by have := hr _ e; have := (h0.gr.lt b hb).2; omega) (fun b hb e => by have := hr _ e; have := (h0.jr.lt b hb).2; omega) (fun b hb e => by have := hr _ e; have := (h0.qr.lt b hb).2; omega)

set_option maxRecDepth 100000 in
set_option maxHeartbeats 1000000 in
theorem plBegin (h : SM D s p gv jv qv w) (hP : POK p) :
    Calls Tryz.prog 54 #[.pointer (some ⟨s, 1, none⟩)] w fun e w' => e = .returned (.tuple #[]) ∧ (∃ qv', SM D s (beginF p) gv jv qv' w') ∧ Keep D w w' := by
  obtain ⟨i0, hI0, hz0, hz1, hz2⟩ := info_parts infoIntL
  have HP : Hid (POK p) := hP
  have hl := hP.n.ln
  have hql := hP.ql
  clear hP
  obtain ⟨a, c, rfl⟩ := (Ns.of h.qr).form
  have HS : Hid (SM D s p gv jv (.slice a p.qs.length c) w) := h
  have hdom : Hid (∀ k, w.heap.size ≤ k → D k) := h.dom
  have c4 := h.pl.c 4
  simp at c4
  clear h
  go_enter Tryz.func54, Tryz.ntmps54
  go_wp2_with fail
  go_loopg [2, 10] (p.qs.length + 1) (fun r rv x wr => ∃ (n : Nat) (wz : World), wz = wr ∧ n ≤ p.qs.length ∧ r = p.qs.length - n + 1 ∧ x = .int .i64 (n : Int) ∧ Hid (wz.ownsRow w.heap.size 3 1 rv (begN p.now p.qs p.js n).2.length ((begN p.now p.qs p.js n).2.map iV)) ∧ Hid (SM D s (p.withJ (begN p.now p.qs p.js n).1) gv jv (.slice a p.qs.length c) wz) ∧ Hid (Keep D w wz))
  case atStart => exact ⟨0, _, rfl, Nat.zero_le _, rfl, rfl, World.ownsRow_nil _ _ _ _, HS, Keep.refl _ _⟩
  case round =>
    obtain ⟨n, wz, rfl, hn, rfl, rfl, HR, H1, K1⟩ := hrel
    obtain ⟨ra, rc, rfl⟩ := (Ns.of HR.out).form
    by_cases hlt : n < p.qs.length
    · have hlt' : (n : Int) < (p.qs.length : Int) := by omega
      have HSU : Hid (begN p.now p.qs p.js (n + 1) = if ((begN p.now p.qs p.js n).1.getD p.qs[n] pj0).sa = p.now then ((begN p.now p.qs p.js n).1.set p.qs[n] (((begN p.now p.qs p.js n).1.getD p.qs[n] pj0).toSt 2), (begN p.now p.qs p.js n).2) else ((begN p.now p.qs p.js n).1, (begN p.now p.qs p.js n).2 ++ [p.qs[n]])) := by
        show _ = _
        rw [← getD_q hlt]; rfl
      have hbl := begN_len p.now p.qs p.js n
      have hqn : p.qs[n] < (begN p.now p.qs p.js n).1.length := by rw [hbl.1]; exact HP.out.q.lt _ (List.getElem_mem hlt)
      rcases Ns.of H1.out.qr with ⟨_, he⟩ | ⟨b, cap, hv, hcap, hb, hcell⟩
      · rw [show p.qs = [] from he] at hlt; simp at hlt
      cases hv
      have l0 := hcell n hlt
      change wz.cell? ⟨b, n, none⟩ = some (.int .i64 (p.qs[n] : Int)) at l0
      clear hcell
      generalize begN p.now p.qs p.js n = Y at *
      obtain ⟨X, R⟩ := Y
      dsimp only at *
      generalize p.qs[n] = id at *
      have hXl : X.length = p.js.length := hbl.1
      have hRl : R.length ≤ 24 := by omega
      obtain ⟨g, cp, hv⟩ := H1.out.jform (id := id) hqn
      change jv = .slice (some ⟨g, 0, none⟩) X.length cp at hv
      subst hv
      have c2 := H1.out.pl.c 2
      have c3 := H1.out.pl.c 3
      change wz.cell? ⟨s, 2, none⟩ = some (.int .i64 p.now) at c2
      change wz.cell? ⟨s, 3, none⟩ = some (.slice (some ⟨g, 0, none⟩) X.length cp) at c3
      obtain ⟨_, l1, _, _, l4, _⟩ := H1.out.jc (k := id) hqn
      have z1 := ownsRow_frozen H1.out.jr (id * 6 + 1)
      change wz.cell? ⟨g, id * 6 + 1, none⟩ = some (.int .i64 (X[id].st : Int)) at l1
      change wz.cell? ⟨g, id * 6 + 4, none⟩ = some (.int .i64 X[id].sa) at l4
      have HG : Hid (X.getD id pj0 = X[id]) := getD_get hqn
      rw [HG.out] at HSU
      by_cases hs : X[id].sa = p.now
      · rw [if_pos hs] at HSU
        rw [hs] at l4
        go_wp2_with fail
        go_region
        have H1d : Hid (SM D s (p.withJ X) gv (.slice (some ⟨g, 0, none⟩) X.length cp) (.slice (some ⟨b, 0, none⟩) p.qs.length c) wz.drew) := H1.out.below (Below.refl _ _).drew
        have K1d : Hid (Keep D w wz.drew) := K1.out.trans (H1.out.keep (Below.refl _ _).drew)
        have HRd : Hid (wz.drew.ownsRow w.heap.size 3 1 (.slice ra R.length rc) R.length (R.map iV)) := HR.out.drew
        clear H1 K1 HR c2 c3 l1 l4 z1 l0 hb
        generalize wz.drew = wy at *
        have c3 := H1d.out.pl.c 3
        change wy.cell? ⟨s, 3, none⟩ = some (.slice (some ⟨g, 0, none⟩) X.length cp) at c3
        obtain ⟨_, l1, _, _, _, _⟩ := H1d.out.jc (k := id) hqn
        have z1 := ownsRow_frozen H1d.out.jr (id * 6 + 1)
        change wy.cell? ⟨g, id * 6 + 1, none⟩ = some (.int .i64 (X[id].st : Int)) at l1
        have HT : Hid (SM D s (p.withJ (X.set id (X[id].toSt 2))) gv (.slice (some ⟨g, 0, none⟩) X.length cp) (.slice (some ⟨b, 0, none⟩) p.qs.length c) (wy.setCell ⟨g, id * 6 + 1, none⟩ (.int .i64 2))) := H1d.out.setJ id 1 (by omega) (.int .i64 2) (X[id].toSt 2) hqn rfl
        have KT : Hid (Keep D w (wy.setCell ⟨g, id * 6 + 1, none⟩ (.int .i64 2))) := K1d.out.setCell (H1d.out.dj g rfl) _
        have HRT : Hid ((wy.setCell ⟨g, id * 6 + 1, none⟩ (.int .i64 2)).ownsRow w.heap.size 3 1 (.slice ra R.length rc) R.length (R.map iV)) := ownsRow_setCell_other HRd.out (a := ⟨g, id * 6 + 1, none⟩) (rows_ne HRd.out H1d.out.jr (by decide) g rfl) _
        have hgz : g < wy.heap.size := (H1d.out.jr.lt g rfl).2
        go_wp2_with fail
        go_roundg (p.qs.length - (n + 1) + 1)
        case measure => omega
        case rel => exact ⟨n + 1, _, rfl, by omega, rfl, by go_num, by rw [HSU.out]; exact HRT, by rw [HSU.out]; exact HT, KT⟩
      · rw [if_neg hs] at HSU
        have hs' : (X[id].sa == p.now) = false := by simpa using hs
        go_wp2_with fail
        go_region
        have H1d : Hid (SM D s (p.withJ X) gv (.slice (some ⟨g, 0, none⟩) X.length cp) (.slice (some ⟨b, 0, none⟩) p.qs.length c) wz.drew) := H1.out.below (Below.refl _ _).drew
        have K1d : Hid (Keep D w wz.drew) := K1.out.trans (H1.out.keep (Below.refl _ _).drew)
        have HRd : Hid (wz.drew.ownsRow w.heap.size 3 1 (.slice ra R.length rc) R.length (R.map iV)) := HR.out.drew
        clear H1 K1 HR c2 c3 l1 l4 z1 l0 hb
        generalize wz.drew = wy at *
        have c3 := H1d.out.pl.c 3
        change wy.cell? ⟨s, 3, none⟩ = some (.slice (some ⟨g, 0, none⟩) X.length cp) at c3
        obtain ⟨_, l1, _, _, _, _⟩ := H1d.out.jc (k := id) hqn
        have z1 := ownsRow_frozen H1d.out.jr (id * 6 + 1)
        change wy.cell? ⟨g, id * 6 + 1, none⟩ = some (.int .i64 (X[id].st : Int)) at l1
        have hown := HRd.out
        have hsz := K1d.out.size
        go_wp2_with (at_builtin; refine wpList_append_lies _ rfl _ _ 36 rfl w.heap.size 3 i0 (.int .i64 0) 1 8 Tryz.underlying36 hI0 hz0 hz1 hz2 rfl (by decide) _ R.length _ rfl (hown.alloc _) ⟨wy.heap.size, 0, none⟩ 1 1 [.int .i64 (id : Int)] rfl rfl (World.news_of_block (cs := #[.int .i64 (id : Int)]) (t := 3) (fr := (0, 0)) (heap_alloc_new wy _)) ?c2 (by decide) ?c3 ?c4 ?c5 _ rfl ?_)
        case c2 => first | rfl | (intro u hu; simp at hu; subst hu; rfl)
        case c3 => unfold maxLen; omega
        case c4 => omega
        case c5 => first | omega | (simp; omega) | simp
        intro g4 cap4 x4 hown4 hgrow4 hat4 hlt4
        have H8 := H1d.out.below ((Below.refl _ _).alloc (Nat.le_refl _) (.cells #[.int .i64 (id : Int)] 3))
        have K8 := K1d.out.trans (H1d.out.keep ((Below.refl _ _).alloc (Nat.le_refl _) (.cells #[.int .i64 (id : Int)] 3)))
        have hrow : ∀ k, (Value.slice ra R.length rc).ownBlock = some k → w.heap.size ≤ k := fun k hk => (HRd.out.lt k hk).1
        have H9 : Hid (SM D s (p.withJ X) gv (.slice (some ⟨g, 0, none⟩) X.length cp) (.slice (some ⟨b, 0, none⟩) p.qs.length c) x4) := SM.growN (n := 0) HS.out H8 hgrow4 hrow
        have K9 : Hid (Keep D w x4) := K8.grown hgrow4 (fun k e => hdom.out k (hrow k e)) H8.dom
        have HR9 : Hid (x4.ownsRow w.heap.size 3 1 (.slice (some ⟨g4, 0, none⟩) (R.length + 1) cap4) (R ++ [id]).length ((R ++ [id]).map iV)) := by
          show World.ownsRow _ _ _ _ _ _ _
          simpa [iV] using hown4
        clear H8 K8 hrow hgrow4 hown4 hat4 hown hsz
        go_wp2_with fail
        go_roundg (p.qs.length - (n + 1) + 1)
        case measure => omega
        case rel => exact ⟨n + 1, _, rfl, by omega, rfl, by go_num, by rw [HSU.out]; exact HR9, by rw [HSU.out]; exact H9, K9⟩
    · have hlt' : ¬ (n : Int) < (p.qs.length : Int) := by omega
      have hnl : n = p.qs.length := by omega
      subst hnl
      have c4' := H1.out.pl.c 4
      change wz.cell? ⟨s, 4, none⟩ = some (.slice a p.qs.length c) at c4'
      have z4 := whole_frozen H1.out.pl 4
      have H2 : Hid (SM D s (beginF p) gv jv (.slice ra (begN p.now p.qs p.js p.qs.length).2.length rc) (wz.setCell ⟨s, 4, none⟩ (.slice ra (begN p.now p.qs p.js p.qs.length).2.length rc))) := H1.out.setQ (ownsRow_base HR.out (Nat.zero_le _)) (fun k hk => hdom.out k (HR.out.lt k hk).1)
      have K2 : Hid (Keep D w (wz.setCell ⟨s, 4, none⟩ (.slice ra (begN p.now p.qs p.js p.qs.length).2.length rc))) := K1.out.setCell H1.out.ds _
      go_wp2_with fail
      go_end0
      exact ⟨rfl, ⟨_, H2.out⟩, K2.out⟩

theorem filter_take {qs : List Nat} {id n : Nat} (h : n < qs.length) : (qs.take (n + 1)).filter (fun k => k ≠ id) = (if qs[n] = id then (qs.take n).filter (fun k => k ≠ id) else (qs.take n).filter (fun k => k ≠ id) ++ [qs[n]]) := by
  rw [List.take_succ_eq_append_getElem h, List.filter_append]
  by_cases e : qs[n] = id
  · simp [e]
  · simp [e]

set_option maxRecDepth 100000 in
set_option maxHeartbeats 1000000 in
theorem plLeave (h : SM D s p gv jv qv w) (hl : p.js.length ≤ 24) (hql : p.qs.length ≤ 24) (id : Nat) (hid : id < p.js.length) :
    Calls Tryz.prog 136 #[.pointer (some ⟨s, 1, none⟩), .int .i64 (id : Int)] w fun e w' => e = .returned (.tuple #[]) ∧ (∃ qv', SM D s (leaveP p id) gv jv qv' w') ∧ Keep D w w' := by
  obtain ⟨i0, hI0, hz0, hz1, hz2⟩ := info_parts infoIntL
  obtain ⟨a, c, rfl⟩ := (Ns.of h.qr).form
  obtain ⟨g, cp, rfl⟩ := h.jform hid
  have HS : Hid (SM D s p gv (.slice (some ⟨g, 0, none⟩) p.js.length cp) (.slice a p.qs.length c) w) := h
  have hdom : Hid (∀ k, w.heap.size ≤ k → D k) := h.dom
  have c4 := h.pl.c 4
  simp at c4
  have HFL : Hid (∀ n, n ≤ p.qs.length → ((p.qs.take n).filter (fun k => k ≠ id)).length ≤ 24) := by
    intro n hn
    have h1 := List.length_filter_le (fun k => decide (k ≠ id)) (p.qs.take n)
    rw [List.length_take] at h1
    omega
  clear h
  go_enter Tryz.func136, Tryz.ntmps136
  go_wp2_with fail
  go_loopg [4, 12] (p.qs.length + 1) (fun r rv x wr => ∃ (n : Nat) (wz : World), wz = wr ∧ n ≤ p.qs.length ∧ r = p.qs.length - n + 1 ∧ x = .int .i64 (n : Int) ∧ Hid (wz.ownsRow w.heap.size 3 1 rv ((p.qs.take n).filter (fun k => k ≠ id)).length (((p.qs.take n).filter (fun k => k ≠ id)).map iV)) ∧ Hid (Below w.heap.size w wz))
  case atStart => exact ⟨0, _, rfl, Nat.zero_le _, rfl, rfl, World.ownsRow_nil _ _ _ _, Below.refl _ _⟩
  case round =>
    obtain ⟨n, wz, rfl, hn, rfl, rfl, HR, HB⟩ := hrel
    obtain ⟨ra, rc, rfl⟩ := (Ns.of HR.out).form
    have hRl := HFL.out n hn
    by_cases hlt : n < p.qs.length
    · have hlt' : (n : Int) < (p.qs.length : Int) := by omega
      have HSU : Hid ((p.qs.take (n + 1)).filter (fun k => k ≠ id) = (if p.qs[n] = id then (p.qs.take n).filter (fun k => k ≠ id) else (p.qs.take n).filter (fun k => k ≠ id) ++ [p.qs[n]])) := filter_take hlt
      rcases Ns.of HS.out.qr with ⟨_, he⟩ | ⟨b, cap, hv, hcap, hb, hcell⟩
      · rw [show p.qs = [] from he] at hlt; simp at hlt
      cases hv
      have l0 := (HB.out.cell (p := ⟨b, n, none⟩) hb).trans (hcell n hlt)
      clear hcell
      generalize (p.qs.take n).filter (fun k => k ≠ id) = R at *
      generalize p.qs[n] = o at *
      have hown := HR.out
      have hsz := HB.out.size
      by_cases he : o = id
      · subst he
        rw [if_pos rfl] at HSU
        go_wp2_with fail
        go_roundg (p.qs.length - (n + 1) + 1)
        case measure => omega
        case rel => exact ⟨n + 1, _, rfl, by omega, rfl, by go_num, by rw [HSU.out]; exact HR, HB⟩
      · rw [if_neg he] at HSU
        have he' : ((o : Int) == (id : Int)) = false := by rw [beq_eq_false_iff_ne]; omega
        have he2 : ¬ (o : Int) = (id : Int) := by omega
        go_wp2_with (at_builtin; refine wpList_append_lies _ rfl _ _ 36 rfl w.heap.size 3 i0 (.int .i64 0) 1 8 Tryz.underlying36 hI0 hz0 hz1 hz2 rfl (by decide) _ R.length _ rfl (hown.alloc _) ⟨wz.heap.size, 0, none⟩ 1 1 [.int .i64 (o : Int)] rfl rfl (World.news_of_block (cs := #[.int .i64 (o : Int)]) (t := 3) (fr := (0, 0)) (heap_alloc_new wz _)) ?c2 (by decide) ?c3 ?c4 ?c5 _ rfl ?_)
        case c2 => first | rfl | (intro u hu; simp at hu; subst hu; rfl)
        case c3 => unfold maxLen; omega
        case c4 => omega
        case c5 => first | omega | (simp; omega) | simp
        intro g4 cap4 x4 hown4 hgrow4 hat4 hlt4
        have HB9 : Hid (Below w.heap.size w x4) := (HB.out.alloc hsz _).grown hgrow4 (by simp; omega) (fun k hk => (HR.out.lt k hk).1)
        have HR9 : Hid (x4.ownsRow w.heap.size 3 1 (.slice (some ⟨g4, 0, none⟩) (R.length + 1) cap4) (R ++ [o]).length ((R ++ [o]).map iV)) := by
          show World.ownsRow _ _ _ _ _ _ _
          simpa [iV] using hown4
        clear hgrow4 hown4 hat4 hown hsz
        go_wp2_with fail
        go_roundg (p.qs.length - (n + 1) + 1)
        case measure => omega
        case rel => exact ⟨n + 1, _, rfl, by omega, rfl, by go_num, by rw [HSU.out]; exact HR9, HB9⟩
    · have hlt' : ¬ (n : Int) < (p.qs.length : Int) := by omega
      have hnl : n = p.qs.length := by omega
      subst hnl
      rw [List.take_length] at *
      generalize hR : p.qs.filter (fun k => k ≠ id) = R at *
      have H1 := HS.out.below HB.out
      have hgs : g ≠ s := fun e => H1.jne (by simp [Value.ownBlock, e])
      have c3 := H1.pl.c 3; have c4 := H1.pl.c 4; have z4 := whole_frozen H1.pl 4
      simp at c3 c4
      obtain ⟨_, _, _, _, l4, _⟩ := H1.jc hid
      have z44 := ownsRow_frozen H1.jr (id * 6 + 4)
      have H2 := (H1.setQ (v := .slice ra R.length rc) (qs := R) (ownsRow_base HR.out (Nat.zero_le _)) (fun k hk => hdom.out k (HR.out.lt k hk).1)).setJ id 4 (by omega) (.int .i64 (-1)) (p.js[id].toSa (-1)) hid rfl
      have K2 := ((Keep.below HB.out hdom.out).setCell (p := ⟨s, 4, none⟩) H1.ds (.slice ra R.length rc)).setCell (p := ⟨g, id * 6 + 4, none⟩) (H1.dj g rfl) (.int .i64 (-1))
      have HE : Hid (leaveP p id = { p with js := p.js.set id (p.js[id].toSa (-1)), qs := R }) := by
        show _ = _
        unfold leaveP
        rw [getD_get hid, hR]
      have H2' : Hid (SM D s (leaveP p id) gv (.slice (some ⟨g, 0, none⟩) p.js.length cp) (.slice ra R.length rc) ((wz.setCell ⟨s, 4, none⟩ (.slice ra R.length rc)).setCell ⟨g, id * 6 + 4, none⟩ (.int .i64 (-1)))) := by
        show SM _ _ _ _ _ _ _
        rw [HE.out]; exact H2
      have K2' : Hid (Keep D w ((wz.setCell ⟨s, 4, none⟩ (.slice ra R.length rc)).setCell ⟨g, id * 6 + 4, none⟩ (.int .i64 (-1)))) := K2
      clear H1 H2 K2 hR
      go_wp2_with fail
      go_end0
      exact ⟨rfl, ⟨_, H2'.out⟩, K2'.out⟩
end Go.Proofs.YtanknpmojblmcaaGreatDoor

/-
  Package pool: Settle.
-/
set_option linter.unusedSimpArgs false
set_option linter.unusedVariables false
namespace Go.Proofs.YtanknpmojblmcaaGreatDoor
open Go.RowKit

variable {D : Nat → Prop} {s : Nat} {p : PS} {gv jv qv : Value} {w w' : World}

set_option maxHeartbeats 1000000 in
theorem plSettle (h : SM D s p gv jv qv w) (hP : POK p) :
    Calls Tryz.prog 26 #[.pointer (some ⟨s, 1, none⟩)] w fun e w' => e = .returned (.tuple #[]) ∧ (∃ qv', SM D s (settleF p) gv jv qv' w') ∧ Keep D w w' := by
  have HP : Hid (POK p) := hP
  have HS : Hid (SM D s p gv jv qv w) := h
  clear h hP
  go_enter Tryz.func26, Tryz.ntmps26
  go_wp2_with fail
  refine (plGiveUp HS.out HP.out).mono ?_
  rintro e x1 ⟨rfl, h1, k1⟩
  have H1 : Hid (SM D s (giveUpF p) gv jv qv x1) := h1
  have K1 : Hid (Keep D w x1) := k1
  clear h1 k1
  go_wp2_with fail
  refine (plMoveUp H1.out (giveUpF_ok HP.out)).mono ?_
  rintro e x2 ⟨rfl, h1, k1⟩
  have H2 : Hid (SM D s (moveUpF (giveUpF p)) gv jv qv x2) := h1
  have K2 : Hid (Keep D w x2) := K1.out.trans k1
  clear h1 k1
  go_wp2_with fail
  refine (plQueueUp H2.out (moveUpF_ok (giveUpF_ok HP.out))).mono ?_
  rintro e x3 ⟨rfl, ⟨q3, h1⟩, k1⟩
  have H3 : Hid (SM D s (queueUpF (moveUpF (giveUpF p))) gv jv q3 x3) := h1
  have K3 : Hid (Keep D w x3) := K2.out.trans k1
  clear h1 k1
  go_wp2_with fail
  refine (plBegin H3.out (queueUpF_ok (moveUpF_ok (giveUpF_ok HP.out)))).mono ?_
  rintro e x4 ⟨rfl, h1, k1⟩
  have H4 : Hid (∃ q4, SM D s (settleF p) gv jv q4 x4) := h1
  have K4 : Hid (Keep D w x4) := K3.out.trans k1
  clear h1 k1
  go_wp2_with fail
  go_end0
  exact ⟨rfl, H4.out, K4.out⟩

end Go.Proofs.YtanknpmojblmcaaGreatDoor

/-
  Package pool: Cancel, Pass.
-/
set_option linter.unusedSimpArgs false
set_option linter.unusedVariables false
namespace Go.Proofs.YtanknpmojblmcaaGreatDoor
open Go.RowKit

variable {D : Nat → Prop} {s : Nat} {p : PS} {gv jv qv : Value} {w w' : World}

set_option maxRecDepth 100000 in
set_option maxHeartbeats 1000000 in
theorem plCancel (h : SM D s p gv jv qv w) (hP : POK p) (id : Int) :
    Calls Tryz.prog 120 #[.pointer (some ⟨s, 1, none⟩), .int .i64 id] w fun e w' => e = .returned (.int .i64 ((cancelF p id).2 : Int)) ∧ (∃ qv', SM D s (cancelF p id).1 gv jv qv' w') ∧ Keep D w w' := by
  have HP : Hid (POK p) := hP
  have HS : Hid (SM D s p gv jv qv w) := h
  have hl := hP.n.ln
  have hql := hP.ql
  clear h hP
  cases hh : hasP p id with
  | false =>
    have HE : Hid (cancelF p id = (p, 11)) := by show _ = _; unfold cancelF; rw [if_pos hh]
    go_enter Tryz.func120, Tryz.ntmps120
    go_wp2_with fail
    refine (plHasId HS.out id).mono ?_
    rintro e x1 ⟨he, rfl⟩
    change e = .returned (.bool (hasP p id)) at he
    rw [hh] at he
    subst he
    go_wp2_with fail
    go_ret
    exact ⟨by rw [HE.out]; rfl, ⟨qv, by rw [HE.out]; exact HS.out⟩, Keep.refl _ _⟩
  | true =>
    obtain ⟨h0, hid, hcast⟩ := has_lt (p := p) (id := id) (by rw [hh]; decide)
    obtain ⟨g, cp, rfl⟩ := HS.out.jform hid
    have c3 := HS.out.pl.c 3
    simp at c3
    obtain ⟨_, l1, _, _, _, _⟩ := HS.out.jc hid
    have HG : Hid (p.js.getD id.toNat pj0 = p.js[id.toNat]) := getD_get hid
    have hst := (HP.out.n.js _ (List.getElem_mem hid)).st
    by_cases hs : 3 ≤ p.js[id.toNat].st
    · have HE : Hid (cancelF p id = (p, 12)) := by
        show _ = _; unfold cancelF; rw [if_neg (by rw [hh]; decide), HG.out, if_pos hs]
      obtain ⟨k, rfl⟩ : ∃ k : Nat, id = (k : Int) := ⟨id.toNat, hcast.symm⟩
      simp only [Int.toNat_natCast] at *
      have hs2 : (3 : Int) ≤ (p.js[k].st : Int) := by omega
      go_enter Tryz.func120, Tryz.ntmps120
      go_wp2_with fail
      refine (plHasId HS.out (k : Int)).mono ?_
      rintro e x1 ⟨he, rfl⟩
      change e = .returned (.bool (hasP p (k : Int))) at he
      rw [hh] at he
      subst he
      go_wp2_with fail
      go_ret
      exact ⟨by rw [HE.out]; rfl, ⟨qv, by rw [HE.out]; exact HS.out⟩, Keep.refl _ _⟩
    · by_cases h1 : p.js[id.toNat].st = 1
      · have HE : Hid (cancelF p id = (settleF (endP (leaveP p id.toNat) id.toNat 5), 0)) := by
          show _ = _; unfold cancelF; rw [if_neg (by rw [hh]; decide), HG.out, if_neg hs, if_pos h1]
        have HO : Hid (POK (endP (leaveP p id.toNat) id.toNat 5)) := leaveP_ok HP.out _ hid (by rw [HG.out]; exact h1)
        obtain ⟨k, rfl⟩ : ∃ k : Nat, id = (k : Int) := ⟨id.toNat, hcast.symm⟩
        simp only [Int.toNat_natCast] at *
        rw [h1] at l1
        go_enter Tryz.func120, Tryz.ntmps120
        go_wp2_with fail
        refine (plHasId HS.out (k : Int)).mono ?_
        rintro e x1 ⟨he, rfl⟩
        change e = .returned (.bool (hasP p (k : Int))) at he
        rw [hh] at he
        subst he
        go_wp2_with fail
        refine (plLeave HS.out hl hql k hid).mono ?_
        rintro e x2 ⟨rfl, ⟨q2, h2⟩, k2⟩
        have H2 : Hid (SM D s (leaveP p k) gv (.slice (some ⟨g, 0, none⟩) p.js.length cp) q2 x2) := h2
        have K2 : Hid (Keep D x1 x2) := k2
        have hlen : (leaveP p k).js.length = p.js.length := by unfold leaveP; simp
        have hid2 : k < (leaveP p k).js.length := by omega
        clear h2 k2
        go_wp2_with fail
        refine (plEnd H2.out k 5 hid2 (by omega)).mono ?_
        rintro e x3 ⟨rfl, h2, k2⟩
        have H3 : Hid (SM D s (endP (leaveP p k) k 5) gv (.slice (some ⟨g, 0, none⟩) p.js.length cp) q2 x3) := by
          show SM _ _ _ _ _ _ _
          unfold endP PS.withJ
          rw [getD_get hid2]
          exact h2
        have K3 : Hid (Keep D x1 x3) := K2.out.trans k2
        clear h2 k2
        go_wp2_with fail
        refine (plSettle H3.out HO.out).mono ?_
        rintro e x4 ⟨rfl, h2, k2⟩
        have H4 : Hid (∃ q, SM D s (settleF (endP (leaveP p k) k 5)) gv (.slice (some ⟨g, 0, none⟩) p.js.length cp) q x4) := h2
        have K4 : Hid (Keep D x1 x4) := K3.out.trans k2
        clear h2 k2
        go_wp2_with fail
        go_ret
        exact ⟨by rw [HE.out]; rfl, by rw [HE.out]; exact H4.out, K4.out⟩
      · have HE : Hid (cancelF p id = (settleF (endP p id.toNat 5), 0)) := by
          show _ = _; unfold cancelF; rw [if_neg (by rw [hh]; decide), HG.out, if_neg hs, if_neg h1]
        have HO : Hid (POK (endP p id.toNat 5)) := endP_ok HP.out _ _ hid (by rw [HG.out]; exact h1) (by omega) (by omega)
        obtain ⟨k, rfl⟩ : ∃ k : Nat, id = (k : Int) := ⟨id.toNat, hcast.symm⟩
        simp only [Int.toNat_natCast] at *
        have h1' : ((p.js[k].st : Int) == 1) = false := by rw [beq_eq_false_iff_ne]; omega
        have hs2 : ¬ (3 : Int) ≤ (p.js[k].st : Int) := by omega
        have hs3 : (p.js[k].st : Int) < 3 := by omega
        go_enter Tryz.func120, Tryz.ntmps120
        go_wp2_with fail
        refine (plHasId HS.out (k : Int)).mono ?_
        rintro e x1 ⟨he, rfl⟩
        change e = .returned (.bool (hasP p (k : Int))) at he
        rw [hh] at he
        subst he
        go_wp2_with fail
        refine (plEnd HS.out k 5 hid hl).mono ?_
        rintro e x3 ⟨rfl, h2, k2⟩
        have H3 : Hid (SM D s (endP p k 5) gv (.slice (some ⟨g, 0, none⟩) p.js.length cp) qv x3) := by
          show SM _ _ _ _ _ _ _
          unfold endP PS.withJ
          rw [getD_get (show k < p.js.length by simpa using hid)]
          exact h2
        have K3 : Hid (Keep D x1 x3) := k2
        clear h2 k2
        go_wp2_with fail
        refine (plSettle H3.out HO.out).mono ?_
        rintro e x4 ⟨rfl, h2, k2⟩
        have H4 : Hid (∃ q, SM D s (settleF (endP p k 5)) gv (.slice (some ⟨g, 0, none⟩) p.js.length cp) q x4) := h2
        have K4 : Hid (Keep D x1 x4) := K3.out.trans k2
        clear h2 k2
        go_wp2_with fail
        go_ret
        exact ⟨by rw [HE.out]; rfl, by rw [HE.out]; exact H4.out, K4.out⟩
end Go.Proofs.YtanknpmojblmcaaGreatDoor

/-
  A system's answers: Status.
-/
set_option linter.unusedSimpArgs false
set_option linter.unusedVariables false
namespace Go.Proofs.YtanknpmojblmcaaGreatDoor
open Go.RowKit

variable {D : Nat → Prop} {s : Nat} {p : PS} {gv jv qv : Value} {w w' : World}

def statP (p : PS) (id : Int) : List Value × Nat := if hasP p id = false then ([.int .i64 0, .int .i64 0, .int .i64 0, .int .i64 0, .int .i64 0], 11) else ([.int .i64 ((p.js.getD id.toNat pj0).st : Int), .int .i64 ((p.js.getD id.toNat pj0).nd : Int), .int .i64 ((p.js.getD id.toNat pj0).tm : Int), .int .i64 (p.js.getD id.toNat pj0).sa, .int .i64 (p.js.getD id.toNat pj0).en], 0)

set_option maxHeartbeats 1000000 in
theorem plStatus (h : SM D s p gv jv qv w) (id : Int) (hl : p.js.length ≤ 24) :
    Calls Tryz.prog 55 #[.pointer (some ⟨s, 1, none⟩), .int .i64 id] w fun e w' => e = .returned (.tuple #[.agg (statP p id).1.toArray, .int .i64 ((statP p id).2 : Int)]) ∧ Below w.heap.size w w' := by
  have HS : Hid (SM D s p gv jv qv w) := h
  clear h
  have HA : Hid (SM D s p gv jv qv (w.alloc (.cells #[.int .i64 0, .int .i64 0, .int .i64 0, .int .i64 0, .int .i64 0] 82))) := HS.out.below ((Below.refl _ _).alloc (Nat.le_refl _) _)
  have HB : Hid (Below w.heap.size w (w.alloc (.cells #[.int .i64 0, .int .i64 0, .int .i64 0, .int .i64 0, .int .i64 0] 82))) := (Below.refl _ _).alloc (Nat.le_refl _) _
  have Y := whole_new w (.cells #[.int .i64 0, .int .i64 0, .int .i64 0, .int .i64 0, .int .i64 0] 82 (0, 0))
  cases hh : hasP p id with
  | false =>
    have HE : Hid (statP p id = ([.int .i64 0, .int .i64 0, .int .i64 0, .int .i64 0, .int .i64 0], 11)) := by show _ = _; unfold statP; rw [if_pos hh]
    go_enter Tryz.func55, Tryz.ntmps55
    go_wp2_with fail
    refine (plHasId HA.out id).mono ?_
    rintro e x1 ⟨he, rfl⟩
    change e = .returned (.bool (hasP p id)) at he
    rw [hh] at he
    subst he
    go_wp2_with fail
    refine bodyPost_ret (resultsCT rfl _ _ w.heap.size 82 #[.int .i64 0, .int .i64 0, .int .i64 0, .int .i64 0, .int .i64 0] (0, 0) _ (by rfl) Y Tryz.underlying82 (by rfl) (by kernel_rfl)) rfl ?_
    exact ⟨by rw [HE.out]; rfl, HB.out⟩
  | true =>
    obtain ⟨h0, hid, hcast⟩ := has_lt (p := p) (id := id) (by rw [hh]; decide)
    obtain ⟨g, cp, rfl⟩ := HS.out.jform hid
    have c3 := HA.out.pl.c 3
    simp only [List.getElem?_toArray, List.getElem?_cons_succ, List.getElem?_cons_zero] at c3
    obtain ⟨_, l1, l2, l3, l4, l5⟩ := HA.out.jc hid
    have z0 := whole_frozen Y 0; have z1 := whole_frozen Y 1; have z2 := whole_frozen Y 2; have z3 := whole_frozen Y 3; have z4 := whole_frozen Y 4
    have k0 := whole_cell Y 0; have k1 := whole_cell Y 1; have k2 := whole_cell Y 2; have k3 := whole_cell Y 3; have k4 := whole_cell Y 4
    simp at k0 k1 k2 k3 k4
    have HE : Hid (statP p id = ([.int .i64 (p.js[id.toNat].st : Int), .int .i64 (p.js[id.toNat].nd : Int), .int .i64 (p.js[id.toNat].tm : Int), .int .i64 p.js[id.toNat].sa, .int .i64 p.js[id.toNat].en], 0)) := by show _ = _; unfold statP; rw [if_neg (by rw [hh]; decide), getD_get hid]
    obtain ⟨k, rfl⟩ : ∃ k : Nat, id = (k : Int) := ⟨id.toNat, hcast.symm⟩
    simp only [Int.toNat_natCast] at *
    go_enter Tryz.func55, Tryz.ntmps55
    go_wp2_with fail
    refine (plHasId HA.out (k : Int)).mono ?_
    rintro e x1 ⟨he, rfl⟩
    change e = .returned (.bool (hasP p (k : Int))) at he
    rw [hh] at he
    subst he
    go_wp2_with fail
    refine bodyPost_ret (resultsCT rfl _ _ w.heap.size 82 #[.int .i64 (p.js[k].st : Int), .int .i64 (p.js[k].nd : Int), .int .i64 (p.js[k].tm : Int), .int .i64 p.js[k].sa, .int .i64 p.js[k].en] (0, 0) _ (by rfl) (whole_new w _) Tryz.underlying82 (by rfl) (by kernel_rfl)) rfl ?_
    exact ⟨by rw [HE.out]; rfl, (Below.refl _ _).alloc (Nat.le_refl _) _⟩

theorem statP_form (p : PS) (id : Int) : ∃ a b c d e : Int, (statP p id).1 = [.int .i64 a, .int .i64 b, .int .i64 c, .int .i64 d, .int .i64 e] := by
  unfold statP
  split
  · exact ⟨_, _, _, _, _, rfl⟩
  · exact ⟨_, _, _, _, _, rfl⟩

set_option maxHeartbeats 1000000 in
theorem syStatus (h : SM D s p gv jv qv w) (id : Int) (hl : p.js.length ≤ 24) :
    Calls Tryz.prog 27 #[.pointer (some ⟨s, 0, none⟩), .int .i64 id] w fun e w' => e = .returned (.tuple #[.agg (statP p id).1.toArray, .int .i64 ((statP p id).2 : Int)]) ∧ Below w.heap.size w w' := by
  have HA : Hid (SM D s p gv jv qv (w.alloc (.cells #[.int .i64 0, .int .i64 0, .int .i64 0, .int .i64 0, .int .i64 0] 82))) := h.below ((Below.refl _ _).alloc (Nat.le_refl _) _)
  clear h
  obtain ⟨a0, a1, a2, a3, a4, hform⟩ := statP_form p id
  have HF : Hid ((statP p id).1 = [.int .i64 a0, .int .i64 a1, .int .i64 a2, .int .i64 a3, .int .i64 a4]) := hform
  clear hform
  go_enter Tryz.func27, Tryz.ntmps27
  go_wp2_with fail
  have hW := (Below.refl _ w).alloc (Nat.le_refl _) (.cells #[.int .i64 0, .int .i64 0, .int .i64 0, .int .i64 0, .int .i64 0] 82)
  have Y := whole_new w (.cells #[.int .i64 0, .int .i64 0, .int .i64 0, .int .i64 0, .int .i64 0] 82 (0, 0))
  refine (plStatus HA.out id hl).mono ?_
  rintro e w1 ⟨he, hB⟩
  rw [HF.out] at he
  change e = .returned (.tuple #[.agg #[.int .i64 a0, .int .i64 a1, .int .i64 a2, .int .i64 a3, .int .i64 a4], _]) at he
  subst he
  have Y1 := (hB.block _ (whole_lt Y)).trans Y
  replace hW := hW.trans (hB.mono (by simp))
  have z0 := whole_frozen Y1 0; have z1 := whole_frozen Y1 1; have z2 := whole_frozen Y1 2; have z3 := whole_frozen Y1 3; have z4 := whole_frozen Y1 4
  have k0 := whole_cell Y1 0; have k1 := whole_cell Y1 1; have k2 := whole_cell Y1 2; have k3 := whole_cell Y1 3; have k4 := whole_cell Y1 4
  simp at k0 k1 k2 k3 k4
  go_wp2_with fail
  refine bodyPost_ret (resultsCT rfl _ _ w.heap.size 82 #[.int .i64 a0, .int .i64 a1, .int .i64 a2, .int .i64 a3, .int .i64 a4] (0, 0) _ (by rfl) (whole_set (whole_set (whole_set (whole_set (whole_set Y1 0 _) 1 _) 2 _) 3 _) 4 _) Tryz.underlying82 (by rfl) (by kernel_rfl)) rfl ?_
  exact ⟨by rw [HF.out]; rfl, ((((hW.setCell (Nat.le_refl _) _).setCell (Nat.le_refl _) _).setCell (Nat.le_refl _) _).setCell (Nat.le_refl _) _).setCell (Nat.le_refl _) _⟩
end Go.Proofs.YtanknpmojblmcaaGreatDoor

/-
  A system: Cancel, New.
-/
set_option linter.unusedSimpArgs false
set_option linter.unusedVariables false
namespace Go.Proofs.YtanknpmojblmcaaGreatDoor
open Go.RowKit

variable {D : Nat → Prop} {s : Nat} {p : PS} {gv jv qv : Value} {w w' : World}

set_option maxHeartbeats 1000000 in
theorem syCancel (h : SM D s p gv jv qv w) (hP : POK p) (id : Int) :
    Calls Tryz.prog 97 #[.pointer (some ⟨s, 0, none⟩), .int .i64 id] w fun e w' => e = .returned (.int .i64 ((cancelF p id).2 : Int)) ∧ (∃ qv', SM D s (cancelF p id).1 gv jv qv' w') ∧ Keep D w w' := by
  have HS : Hid (SM D s p gv jv qv w) := h
  clear h
  go_enter Tryz.func97, Tryz.ntmps97
  go_wp2_with fail
  refine (plCancel HS.out hP id).mono ?_
  rintro e x1 ⟨rfl, h1, k1⟩
  go_wp2_with fail
  go_ret
  exact ⟨rfl, h1, k1⟩


def newP (n : Nat) : PS := ⟨[], n, 0, [], []⟩
theorem newP_ok {n : Nat} (h : n ≤ 8) : POK (newP n) :=
  ⟨⟨by simp [newP], by simp [newP], h, by simp [newP], by simp [newP], by simp [newP], by simp [newP]⟩, ⟨by simp [newP], by simp [newP], by simp [newP], by simp [newP], by simp [newP]⟩⟩

set_option maxHeartbeats 1000000 in
theorem poolNewAny (n : Int) (w : World) :
    Calls Tryz.prog 43 #[.int .i64 n] w fun e w' => e = .returned (.agg #[.int .i64 n, .int .i64 0, .slice none 0 0, .slice none 0 0]) ∧ Below w.heap.size w w' := by
  go_enter Tryz.func43, Tryz.ntmps43
  go_wp2_with fail
  refine bodyPost_ret (results_cell_row rfl _ _ w.heap.size 72 #[.int .i64 n, .int .i64 0, .slice none 0 0, .slice none 0 0] (0, 0) _ (by rfl) (whole_new w _) Tryz.underlying72 (by rfl) (by kernel_rfl)) rfl ?_
  exact ⟨rfl, (Below.refl _ w).alloc (Nat.le_refl _) _⟩

set_option maxHeartbeats 1000000 in
theorem syNew (n : Nat) (h1 : 1 ≤ n) (h8 : n ≤ 8) (w : World) :
    Calls Tryz.prog 17 #[.int .i64 (n : Int)] w fun e w' => ∃ s, e = .returned (.tuple #[.pointer (some ⟨s, 0, none⟩), .int .i64 0]) ∧ w.heap.size ≤ s ∧ SM (fun k => w.heap.size ≤ k) s (newP n) (.slice none 0 0) (.slice none 0 0) (.slice none 0 0) w' ∧ Below w.heap.size w w' := by
  have g1 : ¬ (n : Int) < 1 := by omega
  have g2 : ¬ (8 : Int) < (n : Int) := by omega
  go_enter Tryz.func17, Tryz.ntmps17
  go_wp2_with fail
  refine (poolNewAny (n : Int) _).mono ?_
  rintro e w1 ⟨rfl, hB⟩
  go_wp2_with fail
  go_ret2
  have hsz := hB.size
  exact ⟨_, rfl, hB.size, ⟨whole_new w1 _, World.ownsRow_nil _ _ _ _, World.ownsRow_nil _ _ _ _, World.ownsRow_nil _ _ _ _, hB.size, by simp [Value.ownBlock], by simp [Value.ownBlock], by simp [Value.ownBlock], fun k hk => by simp at hk; omega⟩, hB.alloc hB.size _⟩

set_option maxHeartbeats 1000000 in
theorem syNew_no (n : Int) (h : n < 1 ∨ 8 < n) (w : World) :
    Calls Tryz.prog 17 #[.int .i64 n] w fun e w' => e = .returned (.tuple #[.pointer none, .int .i64 10]) ∧ Below w.heap.size w w' := by
  by_cases h1 : n < 1
  · go_enter Tryz.func17, Tryz.ntmps17
    go_wp2_with fail
    go_ret2
    exact ⟨rfl, Below.refl _ _⟩
  · have h2 : 8 < n := by omega
    go_enter Tryz.func17, Tryz.ntmps17
    go_wp2_with fail
    go_ret2
    exact ⟨rfl, Below.refl _ _⟩
end Go.Proofs.YtanknpmojblmcaaGreatDoor

/-
  Package batch: tooWide, countJobs; package pool: Add.
-/
set_option linter.unusedSimpArgs false
set_option linter.unusedVariables false
namespace Go.Proofs.YtanknpmojblmcaaGreatDoor
open Go.RowKit

def wideF (nodes : Nat) : List HV → Option Nat
  | [] => none
  | h :: r => if nodes < h.nodes then some h.nodesAt else wideF nodes r

set_option maxRecDepth 100000 in
set_option maxHeartbeats 2000000 in
theorem btTooWide (t : Value) (hs : List HV) (nodes : Nat) (w : World) (hH : HdL t hs w) (hn : hs.length ≤ 1000) :
    Calls Tryz.prog 18 #[t, .int .i64 (nodes : Int)] w fun e w' => e = .returned (.tuple #[.int .i64 (((wideF nodes hs).getD 0 : Nat) : Int), .bool (wideF nodes hs).isSome]) ∧ Below w.heap.size w w' := by
  obtain ⟨ta, tc, rfl⟩ := hH.form
  have HH : Hid (HdL (.slice ta hs.length tc) hs w) := hH
  clear hH
  obtain ⟨R, hR⟩ : ∃ R, R = wideF nodes hs := ⟨_, rfl⟩
  rw [← hR]
  have HR0 : Hid (R = wideF nodes hs) := hR
  clear hR
  go_enter Tryz.func18, Tryz.ntmps18
  go_wp2_with fail
  go_loopg [10] (hs.length + 1) (fun r x wr => ∃ (n : Nat) (wz : World), wz = wr ∧ n ≤ hs.length ∧ r = hs.length - n + 1 ∧ x = .int .i64 (n : Int) ∧ Hid (R = wideF nodes (hs.drop n)) ∧ Hid (Below w.heap.size w wz))
  case atStart => exact ⟨0, _, rfl, Nat.zero_le _, rfl, rfl, HR0, Below.refl _ _⟩
  case round =>
    obtain ⟨n, wz, rfl, hnn, rfl, rfl, HR, HBz⟩ := hrel
    by_cases hlt : n < hs.length
    · have hlt' : (n : Int) < (hs.length : Int) := by omega
      rcases HH.out with ⟨_, he⟩ | ⟨b, cap, qs, hv, hcap, hb, hcell⟩
      · rw [he] at hlt; simp at hlt
      cases hv
      have hcl : ∀ j, j < 12 → wz.cell? ⟨b, n * 12 + j, none⟩ = (hvC hs[n] (qs n))[j]? := fun j hj => (HBz.out.cell hb).trans ((hcell n hlt).2 j hj)
      have l0 := hcl 0 (by omega); have l1 := hcl 1 (by omega); have l2 := hcl 2 (by omega); have l3 := hcl 3 (by omega); have l4 := hcl 4 (by omega); have l5 := hcl 5 (by omega)
      have l6 := hcl 6 (by omega); have l7 := hcl 7 (by omega); have l8 := hcl 8 (by omega); have l9 := hcl 9 (by omega); have l10 := hcl 10 (by omega); have l11 := hcl 11 (by omega)
      obtain ⟨qa, qc, hq⟩ := (hcell n hlt).1.form
      generalize qs n = q at *
      subst hq
      simp [hvC] at l0 l1 l2 l3 l4 l5 l6 l7 l8 l9 l10 l11
      have HD : Hid (wideF nodes (hs.drop n) = if nodes < hs[n].nodes then some hs[n].nodesAt else wideF nodes (hs.drop (n + 1))) := by
        show _ = _
        rw [List.drop_eq_getElem_cons hlt]; rfl
      clear hcl hcell
      generalize hs[n] = h at *
      have HBX : Hid (Below w.heap.size w (wz.alloc (.cells #[.string (bs h.name), .int .i64 (h.nodes : Int), .int .i64 (h.time : Int), .bool h.arr, .int .i64 (h.lo : Int), .int .i64 (h.hi : Int), .string (bs h.after), .slice qa h.want.length qc, .int .i64 (h.nameAt : Int), .int .i64 (h.nodesAt : Int), .int .i64 (h.timeAt : Int), .int .i64 (h.arrayAt : Int)] 64))) := HBz.out.alloc HBz.out.size _
      by_cases hw : (nodes : Int) < (h.nodes : Int)
      · have HF : Hid (R = some h.nodesAt) := by show _ = _; rw [HR.out, HD.out, if_pos (by omega)]
        go_wp2_with fail
        go_ret2
        exact ⟨by rw [HF.out]; rfl, HBX.out⟩
      · have HF : Hid (R = wideF nodes (hs.drop (n + 1))) := by show _ = _; rw [HR.out, HD.out, if_neg (by omega)]
        go_wp2_with fail
        go_roundg (hs.length - (n + 1) + 1)
        case measure => omega
        case rel => exact ⟨n + 1, _, rfl, by omega, rfl, by go_num, HF, HBX⟩
    · have hlt' : ¬ (n : Int) < (hs.length : Int) := by omega
      have HF : Hid (R = none) := by
        show _ = _
        have e : hs.drop n = [] := List.drop_eq_nil_of_le (by omega)
        rw [HR.out, e]; rfl
      go_wp2_with fail
      go_ret2
      exact ⟨by rw [HF.out]; rfl, HBz.out⟩

def cntG (gs : List GV) : Nat := (gs.map (·.count)).sum
theorem cntG_take {gs : List GV} {n : Nat} (h : n < gs.length) : cntG (gs.take (n + 1)) = cntG (gs.take n) + gs[n].count := by
  unfold cntG
  rw [List.take_succ_eq_append_getElem h, List.map_append, List.sum_append]
  simp
theorem cntG_le {gs : List GV} (h : ∀ g ∈ gs, g.count ≤ 1000) : ∀ n, n ≤ gs.length → cntG (gs.take n) ≤ 1000 * n := by
  intro n
  induction n with
  | zero => intro _; simp [cntG]
  | succ n ih =>
    intro hn
    have := ih (by omega)
    have h1 := h gs[n] (List.getElem_mem _)
    rw [cntG_take (by omega)]
    omega

set_option maxRecDepth 100000 in
set_option maxHeartbeats 2000000 in
theorem btCount (t : Value) (gs : List GV) (w : World) (hG : Gs t gs w) (hn : gs.length ≤ 1000) (hc : ∀ g ∈ gs, g.count ≤ 1000) :
    Calls Tryz.prog 24 #[t] w fun e w' => e = .returned (.int .i64 (cntG gs : Int)) ∧ Below w.heap.size w w' := by
  obtain ⟨ta, tc, rfl⟩ := hG.form
  have HH : Hid (Gs (.slice ta gs.length tc) gs w) := hG
  have HL : Hid (∀ n, n ≤ gs.length → cntG (gs.take n) ≤ 1000 * n) := cntG_le hc
  have HC : Hid (∀ g ∈ gs, g.count ≤ 1000) := hc
  clear hG hc
  go_enter Tryz.func24, Tryz.ntmps24
  go_wp2_with fail
  go_loopg [3, 8] (gs.length + 1) (fun r cv x wr => ∃ (n : Nat) (wz : World), wz = wr ∧ n ≤ gs.length ∧ r = gs.length - n + 1 ∧ x = .int .i64 (n : Int) ∧ cv = .int .i64 (cntG (gs.take n) : Int) ∧ Hid (Below w.heap.size w wz))
  case atStart => exact ⟨0, _, rfl, Nat.zero_le _, rfl, rfl, rfl, Below.refl _ _⟩
  case round =>
    obtain ⟨n, wz, rfl, hnn, rfl, rfl, rfl, HBz⟩ := hrel
    have hcl := HL.out n hnn
    by_cases hlt : n < gs.length
    · have hlt' : (n : Int) < (gs.length : Int) := by omega
      rcases HH.out with ⟨_, he⟩ | ⟨b, cap, hv, hcap, hb, hcell⟩
      · rw [he] at hlt; simp at hlt
      cases hv
      have hcc : ∀ j, j < 5 → wz.cell? ⟨b, n * 5 + j, none⟩ = (gvC gs[n])[j]? := fun j hj => (HBz.out.cell hb).trans (hcell n hlt j hj)
      have l0 := hcc 0 (by omega); have l1 := hcc 1 (by omega); have l2 := hcc 2 (by omega); have l3 := hcc 3 (by omega); have l4 := hcc 4 (by omega)
      simp [gvC] at l0 l1 l2 l3 l4
      have HSU : Hid (cntG (gs.take (n + 1)) = cntG (gs.take n) + gs[n].count) := cntG_take hlt
      have hgc := HC.out _ (List.getElem_mem hlt)
      clear hcc hcell
      generalize gs[n] = g at *
      generalize cntG (gs.take n) = c at *
      have HBX : Hid (Below w.heap.size w (wz.alloc (.cells #[.string (bs g.name), .bool g.arr, .int .i64 (g.lo : Int), .int .i64 (g.first : Int), .int .i64 (g.count : Int)] 107))) := HBz.out.alloc HBz.out.size _
      go_wp2_with fail
      go_roundg (gs.length - (n + 1) + 1)
      case measure => omega
      case rel => exact ⟨n + 1, _, rfl, by omega, rfl, by go_num, by rw [HSU.out]; go_num, HBX⟩
    · have hlt' : ¬ (n : Int) < (gs.length : Int) := by omega
      have hnl : n = gs.length := by omega
      subst hnl
      rw [List.take_length] at hcl ⊢
      go_wp2_with fail
      go_ret
      exact ⟨rfl, HBz.out⟩

variable {D : Nat → Prop} {s : Nat} {p : PS} {gv jv qv : Value} {w w' : World}

/-- One job more. -/
theorem SM.pushJ (h : SM D s p gv jv qv w) {v : Value} {j : PJ} (g : w.grownBy w' jv.ownBlock) (hr : w'.ownsRow 0 154 6 v (p.js.length + 1) (flatP p.js ++ (pjC j).toList)) (hv : ∀ b, v.ownBlock = some b → D b) : SM D s { p with js := p.js ++ [j] } gv v qv (w'.setCell ⟨s, 3, none⟩ v) := by
  have hs : w'.heap[s]? = w.heap[s]? := g.block s h.pl.lt (fun e => h.jne e.symm)
  have hpl : Pl s gv p.nodes p.now jv qv w' := hs.trans h.pl
  have hg : w'.ownsRow 0 107 5 gv p.gs.length (flatG p.gs) := owns_same h.gr (fun b hb => g.block b (h.gr.lt b hb).2 (fun e => rows_ne h.gr h.jr (by decide) b e.symm hb))
  have hj : w'.ownsRow 0 3 1 qv p.qs.length (p.qs.map iV) := owns_same h.qr (fun b hb => g.block b (h.qr.lt b hb).2 (fun e => rows_ne h.qr h.jr (by decide) b e.symm hb))
  refine ⟨whole_set hpl 3 _, ownsRow_setCell_other hg (a := ⟨s, 3, none⟩) (pl_ne hg hpl (by decide)) _, ?_, ownsRow_setCell_other hj (a := ⟨s, 3, none⟩) (pl_ne hj hpl (by decide)) _, h.ds, h.dg, hv, h.dq, fun i hi => h.dom i (Nat.le_trans g.size (by simpa using hi))⟩
  have := ownsRow_setCell_other hr (a := ⟨s, 3, none⟩) (pl_ne hr hpl (by decide)) v
  rw [← flatP_snoc] at this
  simpa using this
def newJ (c : List UInt8) (nd tm : Nat) : PJ := ⟨c, 0, nd, tm, -1, -1⟩

theorem infoJob : (Tryz.prog.info? 154).map (fun i => (i.zero, i.size, i.bytes)) = some (some (.agg #[.string ⟨#[]⟩, .int .i64 0, .int .i64 0, .int .i64 0, .int .i64 0, .int .i64 0]), 6, 56) := by kernel_rfl

set_option maxRecDepth 100000 in
set_option maxHeartbeats 2000000 in
theorem plAdd (h : SM D s p gv jv qv w) (c : List UInt8) (nd tm : Nat) (hl : p.js.length ≤ 1000) :
    Calls Tryz.prog 50 #[.pointer (some ⟨s, 1, none⟩), .string (bs c), .int .i64 (nd : Int), .int .i64 (tm : Int)] w fun e w' => e = .returned (.tuple #[]) ∧ (∃ jv', SM D s { p with js := p.js ++ [newJ c nd tm] } gv jv' qv w') ∧ Keep D w w' := by
  obtain ⟨i0, hI0, hz0, hz1, hz2⟩ := info_parts infoJob
  obtain ⟨a, cc, rfl⟩ := (Ps.of h.jr).form
  have HA : Hid (SM D s p gv (.slice a p.js.length cc) qv (w.alloc (.cells #[.int .i64 0, .int .i64 (nd : Int), .int .i64 (tm : Int), .int .i64 (-1), .int .i64 (-1)] 82))) := h.below ((Below.refl _ _).alloc (Nat.le_refl _) _)
  have KA : Hid (Keep D w (w.alloc (.cells #[.int .i64 0, .int .i64 (nd : Int), .int .i64 (tm : Int), .int .i64 (-1), .int .i64 (-1)] 82))) := h.keep ((Below.refl _ _).alloc (Nat.le_refl _) _)
  have c3 := HA.out.pl.c 3
  change World.cell? _ ⟨s, 3, none⟩ = some (.slice a p.js.length cc) at c3
  have hsl := h.pl.lt
  clear h
  go_enter Tryz.func50, Tryz.ntmps50
  go_wp2_with fail
  have Y := whole_new w (.cells #[.int .i64 0, .int .i64 (nd : Int), .int .i64 (tm : Int), .int .i64 (-1), .int .i64 (-1)] 82 (0, 0))
  replace Y : (w.alloc (.cells #[.int .i64 0, .int .i64 (nd : Int), .int .i64 (tm : Int), .int .i64 (-1), .int .i64 (-1)] 82)).heap[w.heap.size]? = some (.cells #[.int .i64 0, .int .i64 (nd : Int), .int .i64 (tm : Int), .int .i64 (-1), .int .i64 (-1)] 82 (0, 0)) := Y
  generalize w.alloc (.cells #[.int .i64 0, .int .i64 (nd : Int), .int .i64 (tm : Int), .int .i64 (-1), .int .i64 (-1)] 82) = x2 at *
  generalize w.heap.size = hb at *
  have d0 := whole_cell Y 0; have d1 := whole_cell Y 1; have d2 := whole_cell Y 2; have d3 := whole_cell Y 3; have d4 := whole_cell Y 4
  simp at d0 d1 d2 d3 d4
  have hbx := whole_lt Y
  have hsx := HA.out.pl.lt
  have hjr : x2.ownsRow 0 154 6 (.slice a p.js.length cc) p.js.length (flatP p.js) := HA.out.jr
  have hjn : (Value.slice a p.js.length cc).ownBlock ≠ some s := HA.out.jne
  have hPl : Pl s gv p.nodes p.now (.slice a p.js.length cc) qv x2 := HA.out.pl
  have fz : ∀ o, (x2.alloc o).drew.frozen? ⟨s, 3, none⟩ = false := fun o => whole_frozen (w := (x2.alloc o).drew) (whole_alloc hPl o) 3
  go_region_law
    ((refine step_append_lies _ (by rfl) _ _ _ (by rfl) 0 154 i0 _ 6 56 Tryz.underlying70 hI0 hz0 hz1 hz2 rfl (by omega) (.slice a p.js.length cc) p.js.length (flatP p.js) (by rfl) ((hjr.alloc _).drew)
        ⟨x2.heap.size, 0, none⟩ 1 1 [.string (bs c), .int .i64 0, .int .i64 (nd : Int), .int .i64 (tm : Int), .int .i64 (-1), .int .i64 (-1)] (by rfl) (by rfl) (World.news_of_block (cs := #[.string (bs c), .int .i64 0, .int .i64 (nd : Int), .int .i64 (tm : Int), .int .i64 (-1), .int .i64 (-1)]) (t := 154) (fr := (0, 0)) (heap_alloc_new x2 _)) (by simp [Value.oneCell'])
        (by omega) (by unfold maxLen; omega) (by omega) (by simp) (x2.heap.size + 1) (by simp) ?_; intro g3 cap3 w3 hown3 hgrow3 hat3 hlt3; have m3 : Pl s gv p.nodes p.now (.slice a p.js.length cc) qv w3 := (hgrow3.block s (by simp; omega) (Ne.symm hjn)).trans (whole_alloc hPl _); have m3c := m3.c 3; have m3z := whole_frozen m3 3; simp at m3c))
  all_goals
    have hBd : Below x2.heap.size x2 (x2.alloc (.cells #[.string (bs c), .int .i64 0, .int .i64 (nd : Int), .int .i64 (tm : Int), .int .i64 (-1), .int .i64 (-1)] 154)).drew := ((Below.refl _ _).alloc (Nat.le_refl _) _).drew
    have HX := HA.out.below hBd
    have KX := KA.out.trans (HA.out.keep hBd)
    have hD : ∀ b, (Value.slice (some ⟨g3, 0, none⟩) (p.js.length + 1) cap3).ownBlock = some b → D b := by
      intro b hb
      simp [Value.ownBlock] at hb
      subst hb
      rcases hat3 with h9 | h9
      · exact HX.dj _ h9
      · exact HX.dom _ (by show (x2.alloc _).heap.size ≤ _; simp; omega)
    have H9 := HX.pushJ (j := newJ c nd tm) hgrow3 hown3 hD
    have K9 := (KX.grown hgrow3 (fun k e => HX.dj k e) HX.dom).setCell (p := ⟨s, 3, none⟩) HX.ds (.slice (some ⟨g3, 0, none⟩) (p.js.length + 1) cap3)
    go_end0
    exact ⟨rfl, ⟨_, H9⟩, K9⟩
end Go.Proofs.YtanknpmojblmcaaGreatDoor

/-
  Package batch: the jobs and groups of a batch are added.
-/
set_option linter.unusedSimpArgs false
set_option linter.unusedVariables false
namespace Go.Proofs.YtanknpmojblmcaaGreatDoor
open Go.RowKit

variable {D : Nat → Prop} {s : Nat} {p : PS} {gv jv qv : Value} {w w' : World}

theorem SM.narrow (h : SM D s p gv jv qv w) (hB : Below w.heap.size w w') : SM (fun k => (D k ∧ k < w.heap.size) ∨ w'.heap.size ≤ k) s p gv jv qv w' := by
  have h1 := h.below hB
  exact ⟨h1.pl, h1.gr, h1.jr, h1.qr, Or.inl ⟨h.ds, h.pl.lt⟩, fun g hg => Or.inl ⟨h.dg g hg, (h.gr.lt g hg).2⟩, fun g hg => Or.inl ⟨h.dj g hg, (h.jr.lt g hg).2⟩, fun g hg => Or.inl ⟨h.dq g hg, (h.qr.lt g hg).2⟩, fun k hk => Or.inr hk⟩
theorem narrow_sub (h : SM D s p gv jv qv w) (hB : Below w.heap.size w w') : ∀ k, ((D k ∧ k < w.heap.size) ∨ w'.heap.size ≤ k) → D k := by
  intro k hk
  rcases hk with q | q
  · exact q.1
  · exact h.dom k (Nat.le_trans hB.size q)
theorem SM.widen {D2 : Nat → Prop} (h : SM D2 s p gv jv qv w) (hd : ∀ k, D2 k → D k) : SM D s p gv jv qv w :=
  ⟨h.pl, h.gr, h.jr, h.qr, hd _ h.ds, fun g hg => hd _ (h.dg g hg), fun g hg => hd _ (h.dj g hg), fun g hg => hd _ (h.dq g hg), fun k hk => hd _ (h.dom k hk)⟩
theorem Keep.widen {D2 : Nat → Prop} (h : Keep D2 w w') (hd : ∀ k, D2 k → D k) : Keep D w w' := ⟨h.os, h.tape, h.output, h.size, fun k hk => h.block k (fun q => hk (hd k q))⟩
theorem Keep.cell (h : Keep D w w') {b i : Nat} (hb : ¬ D b) : w'.cell? ⟨b, i, none⟩ = w.cell? ⟨b, i, none⟩ := World.cell?_of_block (h.block b hb)

theorem Gs.keep {v : Value} {gs : List GV} (h : Gs v gs w) (k : Keep D w w') (ho : ∀ b, v.ownBlock = some b → ¬ D b) : Gs v gs w' := by
  rcases h with h | ⟨g, cap, rfl, hc, hg, hcell⟩
  · exact Or.inl h
  · exact Or.inr ⟨g, cap, rfl, hc, Nat.lt_of_lt_of_le hg k.size, fun i hi j hj => (k.cell (ho g rfl)).trans (hcell i hi j hj)⟩
/-- Heads with their steps, that lie outside of D. -/
def HdO (D : Nat → Prop) (v : Value) (hs : List HV) (w : World) : Prop :=
  (v = .slice none 0 0 ∧ hs = []) ∨ ∃ g cap, ∃ qs : Nat → Value, v = .slice (some ⟨g, 0, none⟩) hs.length cap ∧ hs.length ≤ cap ∧ g < w.heap.size ∧ ¬ D g ∧ ∀ k, (hk : k < hs.length) → (Sr 0 (qs k) hs[k].want w ∧ ∀ b, (qs k).ownBlock = some b → ¬ D b) ∧ ∀ j, j < 12 → w.cell? ⟨g, k * 12 + j, none⟩ = (hvC hs[k] (qs k))[j]?
theorem HdO.keep {v : Value} {hs : List HV} (h : HdO D v hs w) (k : Keep D w w') : HdO D v hs w' := by
  rcases h with h | ⟨g, cap, qs, rfl, hc, hg, hD, hcell⟩
  · exact Or.inl h
  · exact Or.inr ⟨g, cap, qs, rfl, hc, Nat.lt_of_lt_of_le hg k.size, hD, fun i hi => ⟨⟨owns_same (hcell i hi).1.1 (fun b hb => k.block b ((hcell i hi).1.2 b hb)), (hcell i hi).1.2⟩, fun j hj => (k.cell hD).trans ((hcell i hi).2 j hj)⟩⟩
theorem HdO.form {v : Value} {hs : List HV} (h : HdO D v hs w) : ∃ a c, v = .slice a hs.length c := by
  rcases h with ⟨rfl, rfl⟩ | ⟨g, cap, qs, rfl, _⟩
  · exact ⟨_, _, rfl⟩
  · exact ⟨_, _, rfl⟩

/-- One group more. -/
theorem SM.pushG (h : SM D s p gv jv qv w) {v : Value} {j : GV} (g : w.grownBy w' gv.ownBlock) (hr : w'.ownsRow 0 107 5 v (p.gs.length + 1) (flatG p.gs ++ (gvC j).toList)) (hv : ∀ b, v.ownBlock = some b → D b) : SM D s { p with gs := p.gs ++ [j] } v jv qv (w'.setCell ⟨s, 0, none⟩ v) := by
  have hs : w'.heap[s]? = w.heap[s]? := g.block s h.pl.lt (fun e => h.gne e.symm)
  have hpl : Pl s gv p.nodes p.now jv qv w' := hs.trans h.pl
  have hg : w'.ownsRow 0 154 6 jv p.js.length (flatP p.js) := owns_same h.jr (fun b hb => g.block b (h.jr.lt b hb).2 (fun e => rows_ne h.jr h.gr (by decide) b e.symm hb))
  have hj : w'.ownsRow 0 3 1 qv p.qs.length (p.qs.map iV) := owns_same h.qr (fun b hb => g.block b (h.qr.lt b hb).2 (fun e => rows_ne h.qr h.gr (by decide) b e.symm hb))
  refine ⟨whole_set hpl 0 _, ?_, ownsRow_setCell_other hg (a := ⟨s, 0, none⟩) (pl_ne hg hpl (by decide)) _, ownsRow_setCell_other hj (a := ⟨s, 0, none⟩) (pl_ne hj hpl (by decide)) _, h.ds, hv, h.dj, h.dq, fun i hi => h.dom i (Nat.le_trans g.size (by simpa using hi))⟩
  have := ownsRow_setCell_other hr (a := ⟨s, 0, none⟩) (pl_ne hr hpl (by decide)) v
  rw [← flatG_snoc] at this
  simpa using this

def takeN (p : PS) (own : List GV) (hs : List HV) : Nat → List PJ
  | 0 => p.js
  | n + 1 => takeN p own hs n ++ List.replicate (own.getD n noG).count (newJ (codeF p.gs own (hs.getD n hv0)) (hs.getD n hv0).nodes (hs.getD n hv0).time)
def takeF (p : PS) (own : List GV) (hs : List HV) : PS := { p with js := takeN p own hs hs.length, gs := p.gs ++ own }
theorem takeN_len (p : PS) (own : List GV) (hs : List HV) : ∀ n, n ≤ own.length → (takeN p own hs n).length = p.js.length + cntG (own.take n) := by
  intro n
  induction n with
  | zero => intro _; simp [takeN, cntG]
  | succ n ih =>
    intro hn
    unfold takeN
    rw [List.length_append, ih (by omega), cntG_take (by omega), List.length_replicate]
    have e : own.getD n noG = own[n] := by simp [show n < own.length by omega]
    rw [e]; omega
theorem cntG_mono {gs : List GV} : ∀ n, cntG (gs.take n) ≤ cntG gs := by
  intro n
  have h : cntG gs = cntG (gs.take n) + cntG (gs.drop n) := by
    unfold cntG
    rw [← List.sum_append, ← List.map_append, List.take_append_drop]
  omega

set_option maxRecDepth 100000 in
set_option maxHeartbeats 4000000 in
theorem btTake (u t : Value) (own : List GV) (hs : List HV) (h : SM D s p gv jv qv w) (hO : Gs u own w) (hOo : ∀ b, u.ownBlock = some b → ¬ D b) (hH : HdO D t hs w) (hm : own.length = hs.length) (hn : hs.length ≤ 100) (hok : ∀ x ∈ hs, HOK x)
    (hgl : p.gs.length ≤ 1000) (hgb : ∀ g ∈ p.gs, GOK g) (hgo : ∀ g ∈ own, GOK g) (hex : ∀ x ∈ hs, ∀ y ∈ x.want, 1 ≤ y.op ∧ (hasR y = true → exS p.gs own y = true)) (hea : ∀ nm, (earlG p.gs nm).length ≤ 1000 ∧ ∀ j ∈ earlG p.gs nm, j < 256) (hl : p.js.length + cntG own ≤ 24) :
    Calls Tryz.prog 25 #[.pointer (some ⟨s, 0, none⟩), u, t] w fun e w' => e = .returned (.tuple #[]) ∧ (∃ gv' jv', SM D s (takeF p own hs) gv' jv' qv w') ∧ Keep D w w' := by
  obtain ⟨i0, hI0, hz0, hz1, hz2⟩ := info_parts infoGroup
  obtain ⟨oa, oc, rfl⟩ := hO.form
  obtain ⟨ta, tc, rfl⟩ := hH.form
  obtain ⟨ga, gc, rfl⟩ := row_formL h.gr
  have HS : Hid (SM D s p (.slice ga p.gs.length gc) jv qv w) := h
  have HH : Hid (HdO D (.slice ta hs.length tc) hs w) := hH
  have HO : Hid (Gs (.slice oa own.length oc) own w) := hO
  have HOo : Hid (∀ b, (Value.slice oa own.length oc).ownBlock = some b → ¬ D b) := hOo
  have HOKs : Hid (∀ x ∈ hs, HOK x) := hok
  have HM : Hid (own.length = hs.length) := hm
  have HGB : Hid (∀ g ∈ p.gs, GOK g) := hgb
  have HGO : Hid (∀ g ∈ own, GOK g) := hgo
  have HEX : Hid (∀ x ∈ hs, ∀ y ∈ x.want, 1 ≤ y.op ∧ (hasR y = true → exS p.gs own y = true)) := hex
  have HEA : Hid (∀ nm, (earlG p.gs nm).length ≤ 1000 ∧ ∀ j ∈ earlG p.gs nm, j < 256) := hea
  have HTL : Hid (∀ n, n ≤ own.length → (takeN p own hs n).length ≤ 24) := fun n q => by rw [takeN_len p own hs n q]; have := cntG_mono (gs := own) n; omega
  have hml : own.length ≤ 100 := by omega
  clear h hH hO hOo hok hm hgb hgo hex hea
  go_enter Tryz.func25, Tryz.ntmps25
  go_wp2_with fail
  go_loopg [14] (hs.length + 1) (fun r x wr => ∃ (n : Nat) (jx : Value) (wz : World), wz = wr ∧ n ≤ hs.length ∧ r = hs.length - n + 1 ∧ x = .int .i64 (n : Int) ∧ Hid (SM D s { p with js := takeN p own hs n } (.slice ga p.gs.length gc) jx qv wz) ∧ Hid (Keep D w wz))
  case atStart => exact ⟨0, jv, _, rfl, Nat.zero_le _, rfl, rfl, HS, Keep.refl _ _⟩
  case round =>
    obtain ⟨n, jx, wz, rfl, hnn, rfl, rfl, H1, K1⟩ := hrel
    by_cases hlt : n < hs.length
    · have hlt' : (n : Int) < (hs.length : Int) := by omega
      have hlo : n < own.length := by have := HM.out; omega
      have hlo' : (n : Int) < (own.length : Int) := by omega
      rcases HH.out.keep K1.out with ⟨_, he⟩ | ⟨b, cap, qs, hv, hcap, hb, hbD, hcell⟩
      · rw [he] at hlt; simp at hlt
      cases hv
      rcases HO.out.keep K1.out HOo.out with ⟨_, he⟩ | ⟨ob, ocap, hv, hocap, hob, hocell⟩
      · rw [he] at hlo; simp at hlo
      cases hv
      have hobD : ¬ D ob := HOo.out ob rfl
      have hcl := (hcell n hlt).2
      have l0 := hcl 0 (by omega); have l1 := hcl 1 (by omega); have l2 := hcl 2 (by omega); have l3 := hcl 3 (by omega); have l4 := hcl 4 (by omega); have l5 := hcl 5 (by omega)
      have l6 := hcl 6 (by omega); have l7 := hcl 7 (by omega); have l8 := hcl 8 (by omega); have l9 := hcl 9 (by omega); have l10 := hcl 10 (by omega); have l11 := hcl 11 (by omega)
      obtain ⟨qa, qc, hq⟩ := (hcell n hlt).1.1.form
      have HSs : Hid (Ss (qs n) hs[n].want wz) := Ss.of (hcell n hlt).1.1
      generalize qs n = q at *
      subst hq
      simp [hvC] at l0 l1 l2 l3 l4 l5 l6 l7 l8 l9 l10 l11
      have oc4 := hocell n hlo 4 (by omega)
      simp [gvC] at oc4
      have hg1 : HOK hs[n] := HOKs.out _ (List.getElem_mem hlt)
      have hx1 := HEX.out _ (List.getElem_mem hlt)
      have HX1 : Hid (∀ y ∈ hs[n].want, 1 ≤ y.op ∧ (hasR y = true → exS p.gs own y = true)) := hx1
      have hgn : GOK own[n] := HGO.out _ (List.getElem_mem hlo)
      have HTS : Hid (takeN p own hs (n + 1) = takeN p own hs n ++ List.replicate own[n].count (newJ (codeF p.gs own hs[n]) hs[n].nodes hs[n].time)) := by
        show _ = _
        have e1 : own.getD n noG = own[n] := by simp [hlo]
        have e2 : hs.getD n hv0 = hs[n] := by simp [hlt]
        rw [← e1, ← e2]; rfl
      have hgn1 := hgn.1
      have htl := HTL.out (n + 1) (by omega)
      rw [HTS.out, List.length_append, List.length_replicate] at htl
      have c0 := H1.out.pl.c 0
      change wz.cell? ⟨s, 0, none⟩ = some (.slice ga p.gs.length gc) at c0
      have hsl := H1.out.pl.lt
      clear hcl hcell hocell hx1 hgn
      generalize hs[n] = h at *
      generalize hcnt : own[n].count = ct at *
      generalize hTN : takeN p own hs n = T at *
      have HX : Hid (Below wz.heap.size wz (wz.alloc (.cells #[.string (bs h.name), .int .i64 (h.nodes : Int), .int .i64 (h.time : Int), .bool h.arr, .int .i64 (h.lo : Int), .int .i64 (h.hi : Int), .string (bs h.after), .slice qa h.want.length qc, .int .i64 (h.nameAt : Int), .int .i64 (h.nodesAt : Int), .int .i64 (h.timeAt : Int), .int .i64 (h.arrayAt : Int)] 64))) := (Below.refl _ wz).alloc (Nat.le_refl _) _
      have Y := whole_new wz (.cells (hvC h (.slice qa h.want.length qc)) 64 (0, 0))
      replace Y : (wz.alloc (.cells #[.string (bs h.name), .int .i64 (h.nodes : Int), .int .i64 (h.time : Int), .bool h.arr, .int .i64 (h.lo : Int), .int .i64 (h.hi : Int), .string (bs h.after), .slice qa h.want.length qc, .int .i64 (h.nameAt : Int), .int .i64 (h.nodesAt : Int), .int .i64 (h.timeAt : Int), .int .i64 (h.arrayAt : Int)] 64)).heap[wz.heap.size]? = some (.cells (hvC h (.slice qa h.want.length qc)) 64 (0, 0)) := Y
      have HOz : Hid (Gs (.slice (some ⟨ob, 0, none⟩) own.length oc) own wz) := HO.out.keep K1.out HOo.out
      go_wp2_with fail
      go_region_with (go_at_call 49; refine (lkCode (.slice ga p.gs.length gc) (.slice (some ⟨ob, 0, none⟩) own.length oc) (.slice qa h.want.length qc) p.gs own h _ (Gs.of (H1.out.below HX.out.drew).gr) (HOz.out.below HX.out.drew) (HSs.out.below HX.out.drew) hgl (by omega) hg1 HGB.out HGO.out HX1.out (HEA.out h.name)).mono ?_; rintro e x1 ⟨rfl, hX1⟩)
      all_goals
        have HB1 : Hid (Below wz.heap.size wz x1) := HX.out.drew.trans (hX1.mono (by simp))
        have Y1 : x1.heap[wz.heap.size]? = some (.cells (hvC h (.slice qa h.want.length qc)) 64 (0, 0)) := (hX1.block _ (by simp)).trans Y
        have H2 := H1.out.narrow HB1.out
        have HSB : Hid (∀ k, ((D k ∧ k < wz.heap.size) ∨ x1.heap.size ≤ k) → D k) := narrow_sub H1.out HB1.out
        have hhb : wz.heap.size < x1.heap.size := whole_lt Y1
        have HhD : Hid (¬ ((D wz.heap.size ∧ wz.heap.size < wz.heap.size) ∨ x1.heap.size ≤ wz.heap.size)) := by rintro (q | q) <;> omega
        have HoD : Hid (¬ ((D ob ∧ ob < wz.heap.size) ∨ x1.heap.size ≤ ob)) := by rintro (q | q)
                                                                                  · exact hobD q.1
                                                                                  · omega
        have hd1 := whole_cell Y1 1
        have hd2 := whole_cell Y1 2
        simp [hvC] at hd1 hd2
        have o4 := (HB1.out.cell (p := ⟨ob, n * 5 + 4, none⟩) hob).trans oc4
        have K12 : Hid (Keep D w x1) := K1.out.trans (H1.out.keep HB1.out)
        generalize hDD : (fun k => (D k ∧ k < wz.heap.size) ∨ x1.heap.size ≤ k) = D2 at *
        replace HSB : Hid (∀ k, D2 k → D k) := by rw [← hDD]; exact HSB
        replace HhD : Hid (¬ D2 wz.heap.size) := by rw [← hDD]; exact HhD
        replace HoD : Hid (¬ D2 ob) := by rw [← hDD]; exact HoD
        have H3 : Hid (SM D2 s { p with js := T } (.slice ga p.gs.length gc) jx qv x1) := H2
        clear hDD H2 Y Y1 l0 l1 l2 l3 l4 l5 l6 l7 l8 l9 l10 l11 hX1 HX c0 oc4
        generalize wz.heap.size = hb at *
        generalize codeF p.gs own h = cd at *
        go_wp2_with fail
        go_loopg [9] (ct + 1) (fun r x wr => ∃ (k : Nat) (jy : Value) (wy : World), wy = wr ∧ k ≤ ct ∧ r = ct - k + 1 ∧ x = .int .i64 (k : Int) ∧ Hid (SM D2 s { p with js := T ++ List.replicate k (newJ cd h.nodes h.time) } (.slice ga p.gs.length gc) jy qv wy) ∧ Hid (Keep D2 x1 wy))
        case atStart => exact ⟨0, jx, _, rfl, Nat.zero_le _, rfl, rfl, (by show SM _ _ _ _ _ _ _; simpa using H3.out), Keep.refl _ _⟩
        case round =>
          obtain ⟨k, jy, wy, rfl, hk, rfl, rfl, H4, K4⟩ := hrel
          have e4 := (K4.out.cell (i := n * 5 + 4) HoD.out).trans o4
          have e1 := (K4.out.cell (i := 1) HhD.out).trans hd1
          have e2 := (K4.out.cell (i := 2) HhD.out).trans hd2
          by_cases hkl : k < ct
          · have hkl' : (k : Int) < (ct : Int) := by omega
            go_wp2_with fail
            go_region_with (go_at_call 50; refine (plAdd (H4.out.below (Below.refl _ _).drew) cd h.nodes h.time (by show (T ++ List.replicate k _).length ≤ 1000; rw [List.length_append, List.length_replicate]; omega)).mono ?_; rintro e y1 ⟨rfl, ⟨j5, h5⟩, k5⟩)
            all_goals
              have H5 : Hid (SM D2 s { p with js := T ++ List.replicate (k + 1) (newJ cd h.nodes h.time) } (.slice ga p.gs.length gc) j5 qv y1) := by
                show SM _ _ _ _ _ _ _
                rw [List.replicate_succ', ← List.append_assoc]
                exact h5
              have K5 : Hid (Keep D2 x1 y1) := (K4.out.trans (H4.out.keep (Below.refl _ _).drew)).trans k5
              clear h5 k5
              go_wp2_with fail
              go_roundg (ct - (k + 1) + 1)
              case measure => omega
              case rel => exact ⟨k + 1, j5, _, rfl, by omega, rfl, by go_num, H5, K5⟩
          · have hkl' : ¬ (k : Int) < (ct : Int) := by omega
            have hkk : k = ct := by omega
            subst hkk
            have H6 : Hid (SM D s { p with js := takeN p own hs (n + 1) } (.slice ga p.gs.length gc) jy qv wy) := by
              show SM _ _ _ _ _ _ _
              rw [HTS.out]; exact H4.out.widen HSB.out
            have K6 : Hid (Keep D w wy) := K12.out.trans (K4.out.widen HSB.out)
            go_wp2_with fail
            go_roundg (hs.length - (n + 1) + 1)
            case measure => omega
            case rel => exact ⟨n + 1, jy, _, rfl, by omega, rfl, by go_num, H6, K6⟩
    · have hlt' : ¬ (n : Int) < (hs.length : Int) := by omega
      have hnl : n = hs.length := by omega
      subst hnl
      have HM2 : Hid (own.length = hs.length) := HM.out
      go_wp2_with fail
      go_loopg [49] (own.length + 1) (fun r x wr => ∃ (k : Nat) (gx : Value) (wy : World), wy = wr ∧ k ≤ own.length ∧ r = own.length - k + 1 ∧ x = .int .i64 (k : Int) ∧ Hid (SM D s { p with js := takeN p own hs hs.length, gs := p.gs ++ own.take k } gx jx qv wy) ∧ Hid (Keep D w wy))
      case atStart => exact ⟨0, _, _, rfl, Nat.zero_le _, rfl, rfl, (by show SM _ _ _ _ _ _ _; simpa using H1.out), K1⟩
      case round =>
        obtain ⟨k, gx, wy, rfl, hk, rfl, rfl, H2, K2⟩ := hrel
        by_cases hkl : k < own.length
        · have hkl' : (k : Int) < (own.length : Int) := by omega
          rcases HO.out.keep K2.out HOo.out with ⟨_, he⟩ | ⟨ob, ocap, hv, hocap, hob, hocell⟩
          · rw [he] at hkl; simp at hkl
          cases hv
          have l0 := hocell k hkl 0 (by omega); have l1 := hocell k hkl 1 (by omega); have l2 := hocell k hkl 2 (by omega); have l3 := hocell k hkl 3 (by omega); have l4 := hocell k hkl 4 (by omega)
          simp [gvC] at l0 l1 l2 l3 l4
          have HTK : Hid (own.take (k + 1) = own.take k ++ [own[k]]) := List.take_succ_eq_append_getElem hkl
          clear hocell
          generalize own[k] = G at *
          obtain ⟨xa, xc, rfl⟩ := row_formL H2.out.gr
          have hgl2 : ({ p with js := takeN p own hs hs.length, gs := p.gs ++ own.take k } : PS).gs.length = p.gs.length + k := by show (p.gs ++ own.take k).length = _; rw [List.length_append, List.length_take]; omega
          rw [hgl2] at H2
          have c0 := H2.out.pl.c 0
          change wy.cell? ⟨s, 0, none⟩ = some (.slice xa (p.gs.length + k) xc) at c0
          have hsl := H2.out.pl.lt
          have HXb : Hid (Below wy.heap.size wy (wy.alloc (.cells #[.string (bs G.name), .bool G.arr, .int .i64 (G.lo : Int), .int .i64 (G.first : Int), .int .i64 (G.count : Int)] 107))) := (Below.refl _ wy).alloc (Nat.le_refl _) _
          have Y := whole_new wy (.cells #[.string (bs G.name), .bool G.arr, .int .i64 (G.lo : Int), .int .i64 (G.first : Int), .int .i64 (G.count : Int)] 107 (0, 0))
          replace Y : (wy.alloc (.cells #[.string (bs G.name), .bool G.arr, .int .i64 (G.lo : Int), .int .i64 (G.first : Int), .int .i64 (G.count : Int)] 107)).heap[wy.heap.size]? = some (.cells #[.string (bs G.name), .bool G.arr, .int .i64 (G.lo : Int), .int .i64 (G.first : Int), .int .i64 (G.count : Int)] 107 (0, 0)) := Y
          go_wp2_with fail
          generalize wy.alloc (.cells #[.string (bs G.name), .bool G.arr, .int .i64 (G.lo : Int), .int .i64 (G.first : Int), .int .i64 (G.count : Int)] 107) = x2 at *
          have HA : Hid (SM D s { p with js := takeN p own hs hs.length, gs := p.gs ++ own.take k } (.slice xa (p.gs.length + k) xc) jx qv x2) := H2.out.below HXb.out
          have KA : Hid (Keep D w x2) := K2.out.trans (H2.out.keep HXb.out)
          generalize wy.heap.size = hb at *
          have d0 := whole_cell Y 0; have d1 := whole_cell Y 1; have d2 := whole_cell Y 2; have d3 := whole_cell Y 3; have d4 := whole_cell Y 4
          simp at d0 d1 d2 d3 d4
          have hbx := whole_lt Y
          have hsx := HA.out.pl.lt
          have hjr : x2.ownsRow 0 107 5 (.slice xa (p.gs.length + k) xc) (p.gs.length + k) (flatG (p.gs ++ own.take k)) := by have q := HA.out.gr; rw [hgl2] at q; exact q
          have hjn : (Value.slice xa (p.gs.length + k) xc).ownBlock ≠ some s := HA.out.gne
          have hPl : Pl s (.slice xa (p.gs.length + k) xc) p.nodes p.now jx qv x2 := HA.out.pl
          have c0' := hPl.c 0
          change x2.cell? ⟨s, 0, none⟩ = some (.slice xa (p.gs.length + k) xc) at c0'
          have fz : ∀ o, (x2.alloc o).drew.frozen? ⟨s, 0, none⟩ = false := fun o => whole_frozen (w := (x2.alloc o).drew) (whole_alloc hPl o) 0
          clear c0 l0 l1 l2 l3 l4 hsl Y
          go_region_law
            ((refine step_append_lies _ (by rfl) _ _ _ (by rfl) 0 107 i0 _ 5 48 Tryz.underlying69 hI0 hz0 hz1 hz2 rfl (by omega) (.slice xa (p.gs.length + k) xc) (p.gs.length + k) (flatG (p.gs ++ own.take k)) (by rfl) ((hjr.alloc _).drew)
                ⟨x2.heap.size, 0, none⟩ 1 1 [.string (bs G.name), .bool G.arr, .int .i64 (G.lo : Int), .int .i64 (G.first : Int), .int .i64 (G.count : Int)] (by rfl) (by rfl) (World.news_of_block (cs := #[.string (bs G.name), .bool G.arr, .int .i64 (G.lo : Int), .int .i64 (G.first : Int), .int .i64 (G.count : Int)]) (t := 107) (fr := (0, 0)) (heap_alloc_new x2 _)) (by simp [Value.oneCell'])
                (by omega) (by unfold maxLen; omega) (by omega) (by simp) (x2.heap.size + 1) (by simp) ?_; intro g3 cap3 w3 hown3 hgrow3 hat3 hlt3; have m3 : Pl s (.slice xa (p.gs.length + k) xc) p.nodes p.now jx qv w3 := (hgrow3.block s (by simp; omega) (Ne.symm hjn)).trans (whole_alloc hPl _); have m3c := m3.c 0; have m3z := whole_frozen m3 0; simp at m3c))
          all_goals
            have hBd : Below x2.heap.size x2 (x2.alloc (.cells #[.string (bs G.name), .bool G.arr, .int .i64 (G.lo : Int), .int .i64 (G.first : Int), .int .i64 (G.count : Int)] 107)).drew := ((Below.refl _ _).alloc (Nat.le_refl _) _).drew
            have HX := HA.out.below hBd
            have KX := KA.out.trans (HA.out.keep hBd)
            have hD : ∀ b, (Value.slice (some ⟨g3, 0, none⟩) (p.gs.length + k + 1) cap3).ownBlock = some b → D b := by
              intro b hb
              simp [Value.ownBlock] at hb
              subst hb
              rcases hat3 with h9 | h9
              · exact HX.dg _ h9
              · exact HX.dom _ (by show (x2.alloc _).heap.size ≤ _; simp; omega)
            have H9 := HX.pushG (j := G) hgrow3 (by rw [hgl2]; exact hown3) hD
            have K9 : Hid (Keep D w (w3.setCell ⟨s, 0, none⟩ (.slice (some ⟨g3, 0, none⟩) (p.gs.length + k + 1) cap3))) := (KX.grown hgrow3 (fun k e => HX.dg k e) HX.dom).setCell (p := ⟨s, 0, none⟩) HX.ds (.slice (some ⟨g3, 0, none⟩) (p.gs.length + k + 1) cap3)
            have H10 : Hid (SM D s { p with js := takeN p own hs hs.length, gs := p.gs ++ own.take (k + 1) } (.slice (some ⟨g3, 0, none⟩) (p.gs.length + k + 1) cap3) jx qv (w3.setCell ⟨s, 0, none⟩ (.slice (some ⟨g3, 0, none⟩) (p.gs.length + k + 1) cap3))) := by
              show SM _ _ _ _ _ _ _
              rw [HTK.out, ← List.append_assoc]; exact H9
            clear H9 hD KX HX hBd hgrow3 hown3 hat3 m3 m3c m3z
            go_wp2_with fail
            go_roundg (own.length - (k + 1) + 1)
            case measure => omega
            case rel => exact ⟨k + 1, _, _, rfl, by omega, rfl, by go_num, H10, K9⟩
        · have hkl' : ¬ (k : Int) < (own.length : Int) := by omega
          have hkk : k = own.length := by omega
          subst hkk
          go_wp2_with fail
          go_end0
          exact ⟨rfl, ⟨gx, jx, (by have q := H2.out; rw [List.take_length] at q; exact q)⟩, K2.out⟩
end Go.Proofs.YtanknpmojblmcaaGreatDoor

/-
  Read of the package head, and of the package batch.
-/
set_option linter.unusedSimpArgs false
set_option linter.unusedVariables false
namespace Go.Proofs.YtanknpmojblmcaaGreatDoor
open Go.RowKit

theorem Aside.below_of {b N : Nat} {w w' : World} (h : Aside b w w') (hb : N ≤ b) (hN : N ≤ w.heap.size) : Below N w w' :=
  ⟨h.os, h.tape, h.output, h.size, fun k hk => h.block k (by omega) (by omega)⟩


set_option maxHeartbeats 1000000 in
theorem headRead_any (T : ByteArray) (w : World) (hT : T.size ≤ maxLen) :
    Calls Tryz.prog 16 #[.string T] w fun e w' => ∃ v xs, e = .returned (.tuple #[v, .int .i64 ((readH T.data.toList).2.1 : Int), .int .i64 ((readH T.data.toList).2.2 : Int)]) ∧ w'.ownsRow w.heap.size 64 12 v xs.length (flatH xs) ∧ xs.map Prod.fst = (readH T.data.toList).1 ∧ (∀ x ∈ xs, Sr w.heap.size x.2 x.1.want w') ∧ Below w.heap.size w w' := by
  have hlen : T.data.toList.length = T.size := by simp
  unfold maxLen at hT
  by_cases hbig : 600 < T.size
  · have hb' : (600 : Int) < (T.size : Int) := by omega
    have HR : Hid (readH T.data.toList = ([], (1, 0))) := by show _ = _; unfold readH; rw [if_pos (by omega)]
    clear hlen
    go_enter Tryz.func16, Tryz.ntmps16
    go_wp2_with fail
    go_ret3
    rw [HR.out]
    exact ⟨_, [], rfl, World.ownsRow_nil _ _ _ _, rfl, (fun x hx => by cases hx), Below.refl _ _⟩
  · have hb' : ¬ (600 : Int) < (T.size : Int) := by omega
    have HR : Hid (readH T.data.toList = if (hdsR T.data.toList).2.2 then ([], (2, (hdsR T.data.toList).2.1))
        else if (beyH (hdsR T.data.toList).1).2 then ([], (3, (beyH (hdsR T.data.toList).1).1))
        else if (twiH [] (hdsR T.data.toList).1).2 then ([], (4, (twiH [] (hdsR T.data.toList).1).1))
        else ((hdsR T.data.toList).1, (0, 0))) := by show _ = _; unfold readH; rw [if_neg (by omega)]
    have hsm := hdsR_small T.data.toList
    have hln := hdsR_len T.data.toList
    go_enter Tryz.func16, Tryz.ntmps16
    go_wp2_with fail
    have hr : Rd w.heap.size (.slice none 0 0) T 0 false (w.alloc (.cells #[.string T, .int .i64 0, .bool false, .slice none 0 0] 101)) := whole_new w _
    refine (heads_any w.heap.size T _ hr (by omega)).mono ?_
    rintro e w1 ⟨v, xs, rv1, rfl, hown, hxs, hsr, hr1, ha1⟩
    rw [World.size_alloc] at hown
    have hB1 : Below w.heap.size w w1 := ((Below.refl _ _).alloc (Nat.le_refl _) _).trans (ha1.below_of (Nat.le_refl _) (by simp))
    generalize hdsR T.data.toList = r at *
    obtain ⟨hs, i1, f1⟩ := r
    simp only at hown hr1 hsm hln HR hxs
    have c1 := hr1.c1; have c2 := hr1.c2
    cases f1 with
    | true =>
      have HR2 : Hid (readH T.data.toList = ([], (2, i1))) := HR
      clear HR
      go_wp2_with fail
      go_quiet (fail)
      go_wp2_with fail
      go_ret3
      rw [HR2.out]
      exact ⟨_, [], rfl, World.ownsRow_nil _ _ _ _, rfl, (fun x hx => by cases hx), ⟨hB1.os, hB1.tape, hB1.output, hB1.size, hB1.block⟩⟩
    | false =>
      have HS := Hs.of hown hxs hsr
      go_wp2_with fail
      refine (beyondLimit_any v hs _ HS (by omega) hsm).mono ?_
      rintro e w2 ⟨rfl, hB2⟩
      have HS2 := HS.later hB2
      have hown2 := owns_below hown hB2
      have hsr2 : ∀ x ∈ xs, Sr w.heap.size x.2 x.1.want w2 := fun x hx => owns_below (hsr x hx) hB2
      replace hB2 := hB1.trans (hB2.mono hB1.size)
      generalize beyH hs = q at *
      obtain ⟨a1, g1⟩ := q
      cases g1 with
      | true =>
        have HR2 : Hid (readH T.data.toList = ([], (3, a1))) := HR
        clear HR
        go_wp2_with fail
        go_ret3
        rw [HR2.out]
        exact ⟨_, [], rfl, World.ownsRow_nil _ _ _ _, rfl, (fun x hx => by cases hx), hB2⟩
      | false =>
        go_wp2_with fail
        refine (namedTwice_any v hs _ HS2 (by omega)).mono ?_
        rintro e w3 ⟨rfl, n3, hw3⟩
        have hown3 : w3.ownsRow w.heap.size 64 12 v xs.length (flatH xs) := by rw [hw3]; exact ownsRow_base hown2 (by omega)
        have hsr3 : ∀ x ∈ xs, Sr w.heap.size x.2 x.1.want w3 := by rw [hw3]; exact hsr2
        have hB3 : Below w.heap.size w w3 := by rw [hw3]; exact ⟨hB2.os, hB2.tape, hB2.output, hB2.size, hB2.block⟩
        clear hw3 hown2 hB2 HS2 HS
        generalize twiH [] hs = q at *
        obtain ⟨a2, g2⟩ := q
        cases g2 with
        | true =>
          have HR2 : Hid (readH T.data.toList = ([], (4, a2))) := HR
          clear HR
          go_wp2_with fail
          go_ret3
          rw [HR2.out]
          exact ⟨_, [], rfl, World.ownsRow_nil _ _ _ _, rfl, (fun x hx => by cases hx), hB3⟩
        | false =>
          have HR2 : Hid (readH T.data.toList = (hs, (0, 0))) := HR
          clear HR
          go_wp2_with fail
          go_ret3
          rw [HR2.out]
          exact ⟨_, xs, rfl, hown3, hxs, hsr3, hB3⟩

end Go.Proofs.YtanknpmojblmcaaGreatDoor

/-
  Package batch: Submit.
-/
set_option linter.unusedSimpArgs false
set_option linter.unusedVariables false
namespace Go.Proofs.YtanknpmojblmcaaGreatDoor
open Go.RowKit

variable {D : Nat → Prop} {s : Nat} {p : PS} {gv jv qv : Value} {w w' : World}

/-- What Submit does, and answers: the error, its place, the first job, how many, the ring. -/
def subF (p : PS) (L : List UInt8) : PS × (Nat × Nat × Nat × Nat) × List Nat :=
  if (readH L).2.1 ≠ 0 then (p, ((readH L).2.1, (readH L).2.2, 0, 0), []) else
  match wideF p.nodes (readH L).1 with
  | some k => (p, (5, k, 0, 0), [])
  | none => match missH p.gs (grpF (readH L).1 p.js.length) (readH L).1 with
    | some k => (p, (6, k, 0, 0), [])
    | none => if ringF (waitsL (grpF (readH L).1 p.js.length) (readH L).1) ≠ [] then (p, (7, 0, 0, 0), ringF (waitsL (grpF (readH L).1 p.js.length) (readH L).1)) else
      if 24 < p.js.length + cntG (grpF (readH L).1 p.js.length) then (p, (8, 0, 0, 0), []) else
      (settleF (takeF p (grpF (readH L).1 p.js.length) (readH L).1), (0, 0, p.js.length, cntG (grpF (readH L).1 p.js.length)), [])

/-- What is known of heads that were read. -/
structure ReadOK (L : List UInt8) : Prop where
  ln : (readH L).1.length ≤ 100
  ok : ∀ x ∈ (readH L).1, HOK x
  op : ∀ x ∈ (readH L).1, ∀ y ∈ x.want, 1 ≤ y.op
/-- What is known of a system's groups. -/
structure GsOK (p : PS) : Prop where
  ok : ∀ g ∈ p.gs, GOK g ∧ 1 ≤ g.count
  sm : cntG p.gs = p.js.length

theorem HdO.of {D2 : Nat → Prop} {base b : Nat} {v : Value} {hs : List HV} {xs : List (HV × Value)} (h : w.ownsRow base 64 12 v xs.length (flatH xs)) (hx : xs.map Prod.fst = hs) (hq : ∀ x ∈ xs, Sr b x.2 x.1.want w) (hb : base ≤ b) (hD : ∀ k, base ≤ k → k < w.heap.size → ¬ D2 k) : HdO D2 v hs w := by
  subst hx
  rcases h.2 with ⟨hv, hn⟩ | ⟨g, cap, cur, hv, h1, h2, h3, h4, h5, h6⟩
  · exact Or.inl ⟨hv, by rw [List.eq_nil_of_length_eq_zero hn]; rfl⟩
  · right
    subst hv
    refine ⟨g, cap, fun k => (xs.getD k (hv0, .slice none 0 0)).2, by simp, by simpa using h3, whole_lt h2, hD g h1 (whole_lt h2), ?_⟩
    intro k hk
    have hk' : k < xs.length := by simpa using hk
    have e : xs.getD k (hv0, .slice none 0 0) = xs[k] := by simp [hk']
    refine ⟨⟨?_, ?_⟩, ?_⟩
    · dsimp only
      rw [e]
      simp only [List.getElem_map]
      exact ownsRow_base (hq _ (List.getElem_mem hk')) (by omega)
    · intro q hq'
      dsimp only at hq'
      rw [e] at hq'
      have q2 := World.ownsRow.lt (hq _ (List.getElem_mem hk')) q hq'
      exact hD q (by omega) q2.2
    · intro j hj
      dsimp only
      rw [e, h.cellAt (k * 12 + j) (by omega), flatH_get xs k hk' j hj]
      simp

theorem miss_none {before own : List GV} : ∀ {hs : List HV}, missH before own hs = none → ∀ x ∈ hs, ∀ y ∈ x.want, hasR y = true → exS before own y = true := by
  have hS : ∀ {S : List Stp}, missS before own S = none → ∀ y ∈ S, hasR y = true → exS before own y = true := by
    intro S
    induction S with
    | nil => intro _ y hy; simp at hy
    | cons z r ih =>
      intro h y hy hr
      unfold missS at h
      split at h
      · simp at h
      · rename_i hc
        rcases List.mem_cons.mp hy with e | e
        · subst e
          cases hx : exS before own y with
          | true => rfl
          | false => exact absurd ⟨hr, hx⟩ hc
        · exact ih h y e hr
  intro hs
  induction hs with
  | nil => intro _ x hx; simp at hx
  | cons h r ih =>
    intro hm x hx y hy hr
    unfold missH at hm
    cases hc : missS before own h.want with
    | some k => rw [hc] at hm; simp at hm
    | none =>
      rw [hc] at hm
      rcases List.mem_cons.mp hx with e | e
      · subst e; exact hS hc y hy hr
      · exact ih hm x e y hy hr
theorem cntG_app (a b : List GV) : cntG (a ++ b) = cntG a + cntG b := by unfold cntG; rw [List.map_append, List.sum_append]
theorem grpN_sum (hs : List HV) (first : Nat) : ∀ n, (grpN hs first n).2 = first + cntG (grpN hs first n).1 ∧ ∀ g ∈ (grpN hs first n).1, g.first + g.count ≤ (grpN hs first n).2 := by
  intro n
  induction n with
  | zero => exact ⟨by simp [grpN, cntG], by simp [grpN]⟩
  | succ n ih =>
    have hf : (grpH (hs.getD n hv0) (grpN hs first n).2).first = (grpN hs first n).2 := by unfold grpH; split <;> rfl
    constructor
    · show (grpN hs first n).2 + _ = first + cntG ((grpN hs first n).1 ++ [_])
      rw [cntG_app, ih.1]
      simp [cntG]
      omega
    · intro g hg
      change g ∈ (grpN hs first n).1 ++ [grpH (hs.getD n hv0) (grpN hs first n).2] at hg
      show g.first + g.count ≤ (grpN hs first n).2 + (grpH (hs.getD n hv0) (grpN hs first n).2).count
      rcases List.mem_append.mp hg with q | q
      · have := ih.2 g q; omega
      · simp only [List.mem_singleton] at q
        subst q
        omega
theorem grpN_mem {hs : List HV} {first : Nat} : ∀ n, n ≤ hs.length → ∀ g ∈ (grpN hs first n).1, ∃ h ∈ hs, ∃ f, g = grpH h f := by
  intro n
  induction n with
  | zero => intro _ g hg; simp [grpN] at hg
  | succ n ih =>
    intro hn g hg
    change g ∈ (grpN hs first n).1 ++ [grpH (hs.getD n hv0) (grpN hs first n).2] at hg
    rcases List.mem_append.mp hg with q | q
    · exact ih (by omega) g q
    · simp only [List.mem_singleton] at q
      have e : hs.getD n hv0 = hs[n] := by simp [show n < hs.length by omega]
      exact ⟨hs[n], List.getElem_mem _, _, by rw [q, e]⟩
theorem grp_ok {hs : List HV} (h : ∀ x ∈ hs, HOK x) {first : Nat} : ∀ g ∈ grpF hs first, g.lo + g.count ≤ 1000 ∧ 1 ≤ g.count ∧ g.count ≤ 6 ∧ g.lo ≤ 900 := by
  intro g hg
  obtain ⟨x, hx, f, rfl⟩ := grpN_mem hs.length (Nat.le_refl _) g hg
  have hk := h x hx
  unfold grpH
  split
  · rename_i ha
    have := hk.ar ha
    have := hk.hi
    refine ⟨?_, ?_, ?_, ?_⟩ <;> dsimp only <;> omega
  · refine ⟨?_, ?_, ?_, ?_⟩ <;> dsimp only <;> omega
theorem cntG_one {gs : List GV} (h : ∀ g ∈ gs, 1 ≤ g.count) : gs.length ≤ cntG gs := by
  induction gs with
  | nil => simp
  | cons a r ih =>
    have h1 := ih (fun g hg => h g (by simp [hg]))
    have h2 := h a (by simp)
    unfold cntG at *
    simp
    omega
theorem cntG_mem {gs : List GV} {g : GV} (h : g ∈ gs) : g.count ≤ cntG gs := by
  induction gs with
  | nil => simp at h
  | cons a r ih =>
    unfold cntG at *
    rcases List.mem_cons.mp h with e | e
    · subst e; simp
    · have := ih e; simp; omega
theorem earl_le (gs : List GV) (nm : List UInt8) : (earlG gs nm).length ≤ cntG gs := by
  induction gs with
  | nil => simp [earlG]
  | cons a r ih =>
    unfold earlG cntG at *
    simp only [List.flatMap_cons, List.length_append, List.map_cons, List.sum_cons]
    by_cases e : a.name = nm
    · rw [if_pos e, List.length_map, List.length_range]
      omega
    · rw [if_neg e]
      simp only [List.length_nil]
      omega
theorem earl_lt {gs : List GV} (h : ∀ g ∈ gs, GOK g) (nm : List UInt8) : ∀ j ∈ earlG gs nm, j < 24 := by
  intro j hj
  unfold earlG at hj
  obtain ⟨g, hg, hj⟩ := List.mem_flatMap.mp hj
  have := (h g hg).1
  split at hj
  · obtain ⟨i, hi, rfl⟩ := List.mem_map.mp hj
    rw [List.mem_range] at hi
    omega
  · simp at hj

theorem owns_set5 {x : World} {base : Nat} {e : TypeId} {size : Nat} {v : Value} {n : Nat} {xs : List Value} {rb : Nat} (h : x.ownsRow base e size v n xs) (hne : ∀ b, v.ownBlock = some b → b ≠ rb) (a0 a1 a2 a3 a4 : Value) :
    (((((x.setCell ⟨rb, 0, none⟩ a0).setCell ⟨rb, 1, none⟩ a1).setCell ⟨rb, 2, none⟩ a2).setCell ⟨rb, 3, none⟩ a3).setCell ⟨rb, 4, none⟩ a4).ownsRow base e size v n xs := by
  have hn : v.ownBlock ≠ some rb := fun q => hne rb q rfl
  exact ownsRow_setCell_other (ownsRow_setCell_other (ownsRow_setCell_other (ownsRow_setCell_other (ownsRow_setCell_other h (a := ⟨rb, 0, none⟩) hn _) (a := ⟨rb, 1, none⟩) hn _) (a := ⟨rb, 2, none⟩) hn _) (a := ⟨rb, 3, none⟩) hn _) (a := ⟨rb, 4, none⟩) hn _
theorem SM.setO (h : SM D s p gv jv qv w) {a : Addr} (hr : ¬ D a.block) (u : Value) : SM D s p gv jv qv (w.setCell a u) :=
  ⟨whole_set_ne h.pl a (fun e => hr (by rw [e]; exact h.ds)) u, ownsRow_setCell_other h.gr (fun e => hr (h.dg _ e)) u, ownsRow_setCell_other h.jr (fun e => hr (h.dj _ e)) u, ownsRow_setCell_other h.qr (fun e => hr (h.dq _ e)) u, h.ds, h.dg, h.dj, h.dq, fun k hk => h.dom k (by simpa using hk)⟩
theorem SM.set5 (h : SM D s p gv jv qv w) {rb : Nat} (hr : ¬ D rb) (a0 a1 a2 a3 a4 : Value) :
    SM D s p gv jv qv (((((w.setCell ⟨rb, 0, none⟩ a0).setCell ⟨rb, 1, none⟩ a1).setCell ⟨rb, 2, none⟩ a2).setCell ⟨rb, 3, none⟩ a3).setCell ⟨rb, 4, none⟩ a4) :=
  ((((h.setO (a := ⟨rb, 0, none⟩) hr _).setO (a := ⟨rb, 1, none⟩) hr _).setO (a := ⟨rb, 2, none⟩) hr _).setO (a := ⟨rb, 3, none⟩) hr _).setO (a := ⟨rb, 4, none⟩) hr _

set_option maxRecDepth 100000 in
set_option maxHeartbeats 4000000 in
theorem sySubmit (T : ByteArray) (h : SM D s p gv jv qv w) (hP : POK p) (hG : GsOK p) (hR : ReadOK T.data.toList) (hT : T.size ≤ maxLen) (hTK : ∀ own hs, own = grpF (readH T.data.toList).1 p.js.length → hs = (readH T.data.toList).1 → p.js.length + cntG own ≤ 24 → POK (takeF p own hs)) :
    Calls Tryz.prog 10 #[.pointer (some ⟨s, 0, none⟩), .string T] w fun e w' => ∃ rv, e = .returned (.agg #[.int .i64 ((subF p T.data.toList).2.1.1 : Int), .int .i64 ((subF p T.data.toList).2.1.2.1 : Int), .int .i64 ((subF p T.data.toList).2.1.2.2.1 : Int), .int .i64 ((subF p T.data.toList).2.1.2.2.2 : Int), rv]) ∧
      (((subF p T.data.toList).1 = p ∧ Below w.heap.size w w' ∧ w'.ownsRow w.heap.size 3 1 rv (subF p T.data.toList).2.2.length ((subF p T.data.toList).2.2.map iV)) ∨
       (rv = .slice none 0 0 ∧ (subF p T.data.toList).2.2 = [] ∧ (∃ gv' jv' qv', SM D s (subF p T.data.toList).1 gv' jv' qv' w') ∧ Keep D w w')) := by
  obtain ⟨ga, gc, rfl⟩ := row_formL h.gr
  have HS : Hid (SM D s p (.slice ga p.gs.length gc) jv qv w) := h
  have HP : Hid (POK p) := hP
  have HG : Hid (GsOK p) := hG
  have HRO : Hid (ReadOK T.data.toList) := hR
  have HTK : Hid (∀ own hs, own = grpF (readH T.data.toList).1 p.js.length → hs = (readH T.data.toList).1 → p.js.length + cntG own ≤ 24 → POK (takeF p own hs)) := hTK
  have hjl := hP.n.ln
  have hn8 := hP.n.nd
  clear h hP hG hR hTK
  have HA : Hid (Below w.heap.size w (w.alloc (.cells #[.int .i64 0, .int .i64 0, .int .i64 0, .int .i64 0, .slice none 0 0] 38))) := (Below.refl _ w).alloc (Nat.le_refl _) _
  have YA := whole_new w (.cells #[.int .i64 0, .int .i64 0, .int .i64 0, .int .i64 0, .slice none 0 0] 38 (0, 0))
  replace YA : (w.alloc (.cells #[.int .i64 0, .int .i64 0, .int .i64 0, .int .i64 0, .slice none 0 0] 38)).heap[w.heap.size]? = some (.cells #[.int .i64 0, .int .i64 0, .int .i64 0, .int .i64 0, .slice none 0 0] 38 (0, 0)) := YA
  go_enter Tryz.func10, Tryz.ntmps10
  go_wp2_with fail
  generalize w.alloc (.cells #[.int .i64 0, .int .i64 0, .int .i64 0, .int .i64 0, .slice none 0 0] 38) = xA at *
  refine (headRead_any T xA hT).mono ?_
  rintro e x1 ⟨v, xs, he, hown, hxs, hsr, hX1⟩
  have HB1 : Hid (Below w.heap.size w x1) := HA.out.trans (hX1.mono HA.out.size)
  have Y1 := (hX1.block _ (whole_lt YA)).trans YA
  have HD1 : Hid (HdL v (readH T.data.toList).1 x1) := HdL.of hown hxs hsr
  have HOW : Hid (x1.ownsRow xA.heap.size 64 12 v xs.length (flatH xs) ∧ xs.map Prod.fst = (readH T.data.toList).1 ∧ ∀ x ∈ xs, Sr xA.heap.size x.2 x.1.want x1) := ⟨hown, hxs, hsr⟩
  have hwA : w.heap.size ≤ xA.heap.size := HA.out.size
  have hXs : Hid (xA.heap.size ≤ x1.heap.size) := hX1.size
  obtain ⟨va, vc, hvf⟩ := HD1.out.form
  subst hvf
  have HSU : Hid (subF p T.data.toList = if (readH T.data.toList).2.1 ≠ 0 then (p, ((readH T.data.toList).2.1, (readH T.data.toList).2.2, 0, 0), []) else
      match wideF p.nodes (readH T.data.toList).1 with
      | some k => (p, (5, k, 0, 0), [])
      | none => match missH p.gs (grpF (readH T.data.toList).1 p.js.length) (readH T.data.toList).1 with
        | some k => (p, (6, k, 0, 0), [])
        | none => if ringF (waitsL (grpF (readH T.data.toList).1 p.js.length) (readH T.data.toList).1) ≠ [] then (p, (7, 0, 0, 0), ringF (waitsL (grpF (readH T.data.toList).1 p.js.length) (readH T.data.toList).1)) else
          if 24 < p.js.length + cntG (grpF (readH T.data.toList).1 p.js.length) then (p, (8, 0, 0, 0), []) else
          (settleF (takeF p (grpF (readH T.data.toList).1 p.js.length) (readH T.data.toList).1), (0, 0, p.js.length, cntG (grpF (readH T.data.toList).1 p.js.length)), [])) := rfl
  obtain ⟨hRn, hRk, hRop⟩ := HRO.out
  have HRK : Hid (∀ x ∈ (readH T.data.toList).1, HOK x) := hRk
  have HRP : Hid (∀ x ∈ (readH T.data.toList).1, ∀ y ∈ x.want, 1 ≤ y.op) := hRop
  clear hX1 hown hxs hsr YA hRk hRop HRO
  obtain ⟨SF, hSF⟩ : ∃ SF, subF p T.data.toList = SF := ⟨_, rfl⟩
  have HSF : Hid (subF p T.data.toList = SF) := hSF
  rw [hSF] at HSU
  clear hSF
  generalize readH T.data.toList = RD at *
  obtain ⟨hs, er, pos⟩ := RD
  dsimp only at *
  by_cases her : er = 0
  · rw [if_neg (by simpa using her)] at HSU
    rw [her] at he
    clear her
    subst he
    go_wp2_with fail
    refine (plNodes (HS.out.below HB1.out)).mono ?_
    rintro e x2 ⟨rfl, rfl⟩
    go_wp2_with fail
    refine (btTooWide _ hs p.nodes x2 HD1.out (by omega)).mono ?_
    rintro e x3 ⟨he, hX3⟩
    have HB3 : Hid (Below w.heap.size w x3) := HB1.out.trans (hX3.mono HB1.out.size)
    have HB13 : Hid (Below x2.heap.size x2 x3) := hX3
    have Y3 := (hX3.block _ (whole_lt Y1)).trans Y1
    clear hX3 Y1
    cases hwd : wideF p.nodes hs with
    | some k =>
      rw [hwd] at he HSU
      change e = .returned (.tuple #[.int .i64 (k : Int), .bool true]) at he
      subst he
      clear hwd
      have z0 := whole_frozen Y3 0; have z1 := whole_frozen Y3 1; have z2 := whole_frozen Y3 2; have z3 := whole_frozen Y3 3; have z4 := whole_frozen Y3 4
      have k0 := whole_cell Y3 0; have k1 := whole_cell Y3 1; have k2 := whole_cell Y3 2; have k3 := whole_cell Y3 3; have k4 := whole_cell Y3 4
      simp at k0 k1 k2 k3 k4
      go_wp2_with fail
      refine bodyPost_ret (results_cell_row rfl _ _ w.heap.size 38 #[.int .i64 5, .int .i64 (k : Int), .int .i64 0, .int .i64 0, .slice none 0 0] (0, 0) _ (by rfl) (whole_set (whole_set (whole_set (whole_set (whole_set Y3 0 _) 1 _) 2 _) 3 _) 4 _) Tryz.underlying38 (by rfl) (by kernel_rfl)) rfl ?_
      exact ⟨_, by rw [HSF.out, HSU.out]; rfl, Or.inl ⟨by rw [HSF.out, HSU.out], ((((HB3.out.setCell (p := ⟨w.heap.size, 0, none⟩) (Nat.le_refl _) _).setCell (p := ⟨w.heap.size, 1, none⟩) (Nat.le_refl _) _).setCell (p := ⟨w.heap.size, 2, none⟩) (Nat.le_refl _) _).setCell (p := ⟨w.heap.size, 3, none⟩) (Nat.le_refl _) _).setCell (p := ⟨w.heap.size, 4, none⟩) (Nat.le_refl _) _, by rw [HSF.out, HSU.out]; exact World.ownsRow_nil _ _ _ _⟩⟩
    | none =>
      rw [hwd] at he HSU
      change e = .returned (.tuple #[.int .i64 0, .bool false]) at he
      subst he
      clear hwd
      go_wp2_with fail
      refine (plCount (HS.out.below HB3.out)).mono ?_
      rintro e x4 ⟨rfl, rfl⟩
      go_wp2_with fail
      refine (lkGroups _ hs p.js.length x4 (HD1.out.below HB13.out) hRn (by omega) HRK.out).mono ?_
      rintro e x5 ⟨ov, rfl, hown5, hX5⟩
      have HB5 : Hid (Below w.heap.size w x5) := HB3.out.trans (hX5.mono HB3.out.size)
      have HB15 : Hid (Below x2.heap.size x2 x5) := HB13.out.trans (hX5.mono HB13.out.size)
      have Y5 := (hX5.block _ (whole_lt Y3)).trans Y3
      have hol : (grpF hs p.js.length).length = hs.length := grpN_len hs p.js.length hs.length
      have hgk := grp_ok HRK.out (first := p.js.length)
      have HGK : Hid (∀ g ∈ grpF hs p.js.length, g.lo + g.count ≤ 1000 ∧ 1 ≤ g.count ∧ g.count ≤ 6 ∧ g.lo ≤ 900) := hgk
      have HGF : Hid (∀ g ∈ grpF hs p.js.length, g.first + g.count ≤ p.js.length + cntG (grpF hs p.js.length)) := by
        intro g hg
        have q := grpN_sum hs p.js.length hs.length
        have q2 := q.2 g hg
        rw [q.1] at q2
        exact q2
      have HTK2 : Hid (p.js.length + cntG (grpF hs p.js.length) ≤ 24 → POK (takeF p (grpF hs p.js.length) hs)) := fun q => HTK.out _ _ rfl rfl q
      generalize grpF hs p.js.length = own at *
      have HGs5 : Hid (Gs ov own x5) := Gs.of hown5
      have HOW5 : Hid (x5.ownsRow x4.heap.size 107 5 ov own.length (flatG own)) := hown5
      obtain ⟨oa, oc, rfl⟩ := row_formL hown5
      have HOL : Hid (own.length = hs.length) := hol
      have hol2 : own.length ≤ 100 := by omega
      have c0 := (HS.out.below HB5.out).pl.c 0
      change x5.cell? ⟨s, 0, none⟩ = some (.slice ga p.gs.length gc) at c0
      have hgl : p.gs.length ≤ 24 := by
        have q := cntG_one (gs := p.gs) (fun g hg => (HG.out.ok g hg).2)
        rw [HG.out.sm] at q
        omega
      clear hX5 hown5 hgk hol Y3
      go_wp2_with fail
      refine (lkMissing _ _ _ p.gs own hs x5 (Gs.of (HS.out.below HB5.out).gr) HGs5.out (HD1.out.below HB15.out) (by omega) (by omega) hRn HRK.out (fun nm g hg => by
        rcases meant_mem hg with q | q
        · exact (HGK.out g q).1
        · have q2 := (HG.out.ok g q).1; have := q2.1; have := q2.2; omega)).mono ?_
      rintro e x6 ⟨he, hX6⟩
      have HB6 : Hid (Below w.heap.size w x6) := HB5.out.trans (hX6.mono HB5.out.size)
      have HB16 : Hid (Below x2.heap.size x2 x6) := HB15.out.trans (hX6.mono HB15.out.size)
      have HB56 : Hid (Below x5.heap.size x5 x6) := hX6
      have Y6 := (hX6.block _ (whole_lt Y5)).trans Y5
      clear hX6 Y5 c0
      cases hms : missH p.gs own hs with
      | some k =>
        rw [hms] at he HSU
        change e = .returned (.tuple #[.int .i64 (k : Int), .bool true]) at he
        subst he
        clear hms
        have z0 := whole_frozen Y6 0; have z1 := whole_frozen Y6 1; have z2 := whole_frozen Y6 2; have z3 := whole_frozen Y6 3; have z4 := whole_frozen Y6 4
        have k0 := whole_cell Y6 0; have k1 := whole_cell Y6 1; have k2 := whole_cell Y6 2; have k3 := whole_cell Y6 3; have k4 := whole_cell Y6 4
        simp at k0 k1 k2 k3 k4
        go_wp2_with fail
        refine bodyPost_ret (results_cell_row rfl _ _ w.heap.size 38 #[.int .i64 6, .int .i64 (k : Int), .int .i64 0, .int .i64 0, .slice none 0 0] (0, 0) _ (by rfl) (whole_set (whole_set (whole_set (whole_set (whole_set Y6 0 _) 1 _) 2 _) 3 _) 4 _) Tryz.underlying38 (by rfl) (by kernel_rfl)) rfl ?_
        exact ⟨_, by rw [HSF.out, HSU.out]; rfl, Or.inl ⟨by rw [HSF.out, HSU.out], ((((HB6.out.setCell (p := ⟨w.heap.size, 0, none⟩) (Nat.le_refl _) _).setCell (p := ⟨w.heap.size, 1, none⟩) (Nat.le_refl _) _).setCell (p := ⟨w.heap.size, 2, none⟩) (Nat.le_refl _) _).setCell (p := ⟨w.heap.size, 3, none⟩) (Nat.le_refl _) _).setCell (p := ⟨w.heap.size, 4, none⟩) (Nat.le_refl _) _, by rw [HSF.out, HSU.out]; exact World.ownsRow_nil _ _ _ _⟩⟩
      | none =>
        rw [hms] at he HSU
        change e = .returned (.tuple #[.int .i64 0, .bool false]) at he
        subst he
        have HMN : Hid (missH p.gs own hs = none) := hms
        clear hms
        go_wp2_with fail
        refine (lkRing _ _ own hs x6 (HGs5.out.below HB56.out) (HD1.out.below HB16.out) HOL.out hRn HRK.out).mono ?_
        rintro e x7 ⟨rv, rfl, hown7, hX7⟩
        have HB7 : Hid (Below w.heap.size w x7) := HB6.out.trans (hX7.mono HB6.out.size)
        have HB17 : Hid (Below x2.heap.size x2 x7) := HB16.out.trans (hX7.mono HB16.out.size)
        have HB57 : Hid (Below x5.heap.size x5 x7) := HB56.out.trans (hX7.mono HB56.out.size)
        have Y7 := (hX7.block _ (whole_lt Y6)).trans Y6
        have HR7 : Hid (x7.ownsRow x6.heap.size 3 1 rv (ringF (waitsL own hs)).length ((ringF (waitsL own hs)).map iV)) := hown7
        obtain ⟨ra, rc, rfl⟩ := row_formL hown7
        have h6w : w.heap.size < x6.heap.size := whole_lt Y6
        have hrb : ∀ b, (Value.slice ra (ringF (waitsL own hs)).length rc).ownBlock = some b → w.heap.size < b := fun b hb => Nat.lt_of_lt_of_le h6w (hown7.lt b hb).1
        have HRB : Hid (∀ b, (Value.slice ra (ringF (waitsL own hs)).length rc).ownBlock = some b → w.heap.size < b) := hrb
        clear hX7 hown7 Y6 hrb
        by_cases hrg : ringF (waitsL own hs) = []
        · rw [if_neg (by simpa using hrg)] at HSU
          have hrl : (((ringF (waitsL own hs)).length : Int) > 0) = False := by rw [hrg]; simp
          have hrl2 : ¬ (0 : Int) < ((ringF (waitsL own hs)).length : Int) := by rw [hrg]; simp
          clear hrg
          generalize ringF (waitsL own hs) = rg at *
          go_wp2_with fail
          refine (btCount _ own x7 (HGs5.out.below HB57.out) (by omega) (fun g hg => by have := (HGK.out g hg).2.2.1; omega)).mono ?_
          rintro e x8 ⟨rfl, hX8⟩
          have HB8 : Hid (Below w.heap.size w x8) := HB7.out.trans (hX8.mono HB7.out.size)
          have HB18 : Hid (Below x2.heap.size x2 x8) := HB17.out.trans (hX8.mono HB17.out.size)
          have HB58 : Hid (Below x5.heap.size x5 x8) := HB57.out.trans (hX8.mono HB57.out.size)
          have Y8 := (hX8.block _ (whole_lt Y7)).trans Y7
          clear hX8 Y7
          have hcg := cntG_le (gs := own) (fun g hg => by have := (HGK.out g hg).2.2.1; omega) own.length (Nat.le_refl _)
          rw [List.take_length] at hcg
          by_cases hfu : 24 < p.js.length + cntG own
          · rw [if_pos hfu] at HSU
            have hfu' : (24 : Int) < (p.js.length : Int) + (cntG own : Int) := by omega
            have z0 := whole_frozen Y8 0; have z1 := whole_frozen Y8 1; have z2 := whole_frozen Y8 2; have z3 := whole_frozen Y8 3; have z4 := whole_frozen Y8 4
            have k0 := whole_cell Y8 0; have k1 := whole_cell Y8 1; have k2 := whole_cell Y8 2; have k3 := whole_cell Y8 3; have k4 := whole_cell Y8 4
            simp at k0 k1 k2 k3 k4
            go_wp2_with fail
            refine bodyPost_ret (results_cell_row rfl _ _ w.heap.size 38 #[.int .i64 8, .int .i64 0, .int .i64 0, .int .i64 0, .slice none 0 0] (0, 0) _ (by rfl) (whole_set (whole_set (whole_set (whole_set (whole_set Y8 0 _) 1 _) 2 _) 3 _) 4 _) Tryz.underlying38 (by rfl) (by kernel_rfl)) rfl ?_
            exact ⟨_, by rw [HSF.out, HSU.out]; rfl, Or.inl ⟨by rw [HSF.out, HSU.out], ((((HB8.out.setCell (p := ⟨w.heap.size, 0, none⟩) (Nat.le_refl _) _).setCell (p := ⟨w.heap.size, 1, none⟩) (Nat.le_refl _) _).setCell (p := ⟨w.heap.size, 2, none⟩) (Nat.le_refl _) _).setCell (p := ⟨w.heap.size, 3, none⟩) (Nat.le_refl _) _).setCell (p := ⟨w.heap.size, 4, none⟩) (Nat.le_refl _) _, by rw [HSF.out, HSU.out]; exact World.ownsRow_nil _ _ _ _⟩⟩
          · rw [if_neg hfu] at HSU
            have hfu' : ¬ (24 : Int) < (p.js.length : Int) + (cntG own : Int) := by omega
            have HS8 := HS.out.narrow HB8.out
            have HSB : Hid (∀ k, ((D k ∧ k < w.heap.size) ∨ x8.heap.size ≤ k) → D k) := narrow_sub HS.out HB8.out
            have h8w : w.heap.size < x8.heap.size := whole_lt Y8
            have HrD : Hid (¬ ((D w.heap.size ∧ w.heap.size < w.heap.size) ∨ x8.heap.size ≤ w.heap.size)) := by rintro (q | q) <;> omega
            have HHO : Hid (HdO (fun k => (D k ∧ k < w.heap.size) ∨ x8.heap.size ≤ k) (.slice va hs.length vc) hs x8) := by
              obtain ⟨q1, q2, q3⟩ := HOW.out
              have hO := HdO.of (D2 := fun k => (D k ∧ k < w.heap.size) ∨ x8.heap.size ≤ k) (owns_below q1 HB18.out) q2 (fun x hx => owns_below (q3 x hx) HB18.out) (Nat.le_refl _) (fun k k1 k2 q => by rcases q with q | q <;> omega)
              exact hO
            have HGO : Hid (∀ b, (Value.slice oa own.length oc).ownBlock = some b → ¬ ((D b ∧ b < w.heap.size) ∨ x8.heap.size ≤ b)) := by
              intro b hb q
              have q1 := HOW5.out.lt b hb
              have q2 := HB3.out.size
              have q3 := HB58.out.size
              rcases q with q | q <;> omega
            generalize hDD : (fun k => (D k ∧ k < w.heap.size) ∨ x8.heap.size ≤ k) = D2 at *
            replace HSB : Hid (∀ k, D2 k → D k) := by rw [← hDD]; exact HSB
            replace HrD : Hid (¬ D2 w.heap.size) := by rw [← hDD]; exact HrD
            replace HGO : Hid (∀ b, (Value.slice oa own.length oc).ownBlock = some b → ¬ D2 b) := by rw [← hDD]; exact HGO
            have H8 : Hid (SM D2 s p (.slice ga p.gs.length gc) jv qv x8) := HS8
            clear hDD HS8
            have HGG : Hid (∀ g ∈ own, GOK g) := fun g hg => ⟨by have := HGF.out g hg; omega, (HGK.out g hg).2.2.2⟩
            have HEX : Hid (∀ x ∈ hs, ∀ y ∈ x.want, 1 ≤ y.op ∧ (hasR y = true → exS p.gs own y = true)) := fun x hx y hy => ⟨HRP.out x hx y hy, miss_none HMN.out x hx y hy⟩
            have HEA : Hid (∀ nm, (earlG p.gs nm).length ≤ 1000 ∧ ∀ j ∈ earlG p.gs nm, j < 256) := fun nm => ⟨by have q := earl_le p.gs nm; rw [HG.out.sm] at q; omega, fun j hj => by have := earl_lt (fun g hg => (HG.out.ok g hg).1) nm j hj; omega⟩
            go_wp2_with fail
            refine (btTake _ _ own hs H8.out (HGs5.out.below HB58.out) HGO.out HHO.out HOL.out hRn HRK.out (by omega) (fun g hg => (HG.out.ok g hg).1) HGG.out HEX.out HEA.out (by omega)).mono ?_
            rintro e x9 ⟨rfl, ⟨g9, j9, h9⟩, k9⟩
            have H9 : Hid (SM D2 s (takeF p own hs) g9 j9 qv x9) := h9
            have K9 : Hid (Keep D2 x8 x9) := k9
            clear h9 k9
            go_wp2_with fail
            refine (plSettle H9.out (HTK2.out (by omega))).mono ?_
            rintro e x10 ⟨rfl, ⟨q10, h10⟩, k10⟩
            have H10 : Hid (SM D2 s (settleF (takeF p own hs)) g9 j9 q10 x10) := h10
            have K10 : Hid (Keep D2 x8 x10) := K9.out.trans k10
            have Y10 := (K10.out.block _ HrD.out).trans Y8
            have K10w : Hid (Keep D w x10) := (Keep.below HB8.out HS.out.dom).trans (K10.out.widen HSB.out)
            clear h10 k10 Y8
            have z0 := whole_frozen Y10 0; have z1 := whole_frozen Y10 1; have z2 := whole_frozen Y10 2; have z3 := whole_frozen Y10 3; have z4 := whole_frozen Y10 4
            have k0 := whole_cell Y10 0; have k1 := whole_cell Y10 1; have k2 := whole_cell Y10 2; have k3 := whole_cell Y10 3; have k4 := whole_cell Y10 4
            simp at k0 k1 k2 k3 k4
            go_wp2_with fail
            refine bodyPost_ret (results_cell_row rfl _ _ w.heap.size 38 #[.int .i64 0, .int .i64 0, .int .i64 (p.js.length : Int), .int .i64 (cntG own : Int), .slice none 0 0] (0, 0) _ (by rfl) (whole_set (whole_set (whole_set (whole_set (whole_set Y10 0 _) 1 _) 2 _) 3 _) 4 _) Tryz.underlying38 (by rfl) (by kernel_rfl)) rfl ?_
            exact ⟨_, by rw [HSF.out, HSU.out]; rfl, Or.inr ⟨rfl, by rw [HSF.out, HSU.out], ⟨g9, j9, q10, by rw [HSF.out, HSU.out]; exact (SM.set5 (H10.out) HrD.out _ _ _ _ _).widen HSB.out⟩, ((((K10w.out.setCell (p := ⟨w.heap.size, 0, none⟩) (HS.out.dom _ (Nat.le_refl _)) _).setCell (p := ⟨w.heap.size, 1, none⟩) (HS.out.dom _ (Nat.le_refl _)) _).setCell (p := ⟨w.heap.size, 2, none⟩) (HS.out.dom _ (Nat.le_refl _)) _).setCell (p := ⟨w.heap.size, 3, none⟩) (HS.out.dom _ (Nat.le_refl _)) _).setCell (p := ⟨w.heap.size, 4, none⟩) (HS.out.dom _ (Nat.le_refl _)) _⟩⟩
        · rw [if_pos hrg] at HSU
          have hpos : 0 < (ringF (waitsL own hs)).length := List.length_pos_iff.mpr hrg
          have hrl2 : (0 : Int) < ((ringF (waitsL own hs)).length : Int) := by omega
          clear hrg
          generalize ringF (waitsL own hs) = rg at *
          have z0 := whole_frozen Y7 0; have z1 := whole_frozen Y7 1; have z2 := whole_frozen Y7 2; have z3 := whole_frozen Y7 3; have z4 := whole_frozen Y7 4
          have k0 := whole_cell Y7 0; have k1 := whole_cell Y7 1; have k2 := whole_cell Y7 2; have k3 := whole_cell Y7 3; have k4 := whole_cell Y7 4
          simp at k0 k1 k2 k3 k4
          go_wp2_with fail
          refine bodyPost_ret (results_cell_row rfl _ _ w.heap.size 38 #[.int .i64 7, .int .i64 0, .int .i64 0, .int .i64 0, .slice ra rg.length rc] (0, 0) _ (by rfl) (whole_set (whole_set (whole_set (whole_set (whole_set Y7 0 _) 1 _) 2 _) 3 _) 4 _) Tryz.underlying38 (by rfl) (by kernel_rfl)) rfl ?_
          exact ⟨_, by rw [HSF.out, HSU.out]; rfl, Or.inl ⟨by rw [HSF.out, HSU.out], ((((HB7.out.setCell (p := ⟨w.heap.size, 0, none⟩) (Nat.le_refl _) _).setCell (p := ⟨w.heap.size, 1, none⟩) (Nat.le_refl _) _).setCell (p := ⟨w.heap.size, 2, none⟩) (Nat.le_refl _) _).setCell (p := ⟨w.heap.size, 3, none⟩) (Nat.le_refl _) _).setCell (p := ⟨w.heap.size, 4, none⟩) (Nat.le_refl _) _, by rw [HSF.out, HSU.out]; exact (ownsRow_base (owns_set5 HR7.out (fun b hb e => by have := HRB.out b hb; omega) _ _ _ _ _) (Nat.le_of_lt h6w))⟩⟩
  · rw [if_pos (by simpa using her)] at HSU
    have her' : ((er : Int) == 0) = false := by rw [beq_eq_false_iff_ne]; omega
    have her2 : ¬ (er : Int) = 0 := by omega
    subst he
    have z0 := whole_frozen Y1 0; have z1 := whole_frozen Y1 1; have z2 := whole_frozen Y1 2; have z3 := whole_frozen Y1 3; have z4 := whole_frozen Y1 4
    have k0 := whole_cell Y1 0; have k1 := whole_cell Y1 1; have k2 := whole_cell Y1 2; have k3 := whole_cell Y1 3; have k4 := whole_cell Y1 4
    simp at k0 k1 k2 k3 k4
    go_wp2_with fail
    refine bodyPost_ret (results_cell_row rfl _ _ w.heap.size 38 #[.int .i64 (er : Int), .int .i64 (pos : Int), .int .i64 0, .int .i64 0, .slice none 0 0] (0, 0) _ (by rfl) (whole_set (whole_set (whole_set (whole_set (whole_set Y1 0 _) 1 _) 2 _) 3 _) 4 _) Tryz.underlying38 (by rfl) (by kernel_rfl)) rfl ?_
    exact ⟨_, by rw [HSF.out, HSU.out]; rfl, Or.inl ⟨by rw [HSF.out, HSU.out], ((((HB1.out.setCell (p := ⟨w.heap.size, 0, none⟩) (Nat.le_refl _) _).setCell (p := ⟨w.heap.size, 1, none⟩) (Nat.le_refl _) _).setCell (p := ⟨w.heap.size, 2, none⟩) (Nat.le_refl _) _).setCell (p := ⟨w.heap.size, 3, none⟩) (Nat.le_refl _) _).setCell (p := ⟨w.heap.size, 4, none⟩) (Nat.le_refl _) _, by rw [HSF.out, HSU.out]; exact World.ownsRow_nil _ _ _ _⟩⟩
end Go.Proofs.YtanknpmojblmcaaGreatDoor
