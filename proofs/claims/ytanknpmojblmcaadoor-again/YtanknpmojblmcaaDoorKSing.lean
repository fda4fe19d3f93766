/-
  The book's single: parts that say that all jobs of a name are over.
-/
import Derived.Test.YtanknpmojblmcaaDoorKBook
import Derived.Deep.RegionHeld3
import Derived.Deep.AppendLies
import Derived.Deep.RegionLaw
import Derived.Deep.DrawnRows
set_option linter.unusedSimpArgs false
set_option linter.unusedVariables false
namespace Go.Proofs.YtanknpmojblmcaaDoor
open Go.RowKit

/-- A head that is being made. -/
def Md (h : Nat) (m : MV) (w : World) : Prop := w.heap[h]? = some (.cells (mvC m) 35 (0, 0))
theorem Md.c {h : Nat} {m : MV} {w : World} (x : Md h m w) (i : Nat) : w.cell? ⟨h, i, none⟩ = (mvC m)[i]? := whole_cell x i
theorem Md.z {h : Nat} {m : MV} {w : World} (x : Md h m w) (i : Nat) : w.frozen? ⟨h, i, none⟩ = false := whole_frozen x i
theorem Md.lt {h : Nat} {m : MV} {w : World} (x : Md h m w) : h < w.heap.size := whole_lt x
theorem Md.alloc {h : Nat} {m : MV} {w : World} (x : Md h m w) (o : Obj) : Md h m (w.alloc o) := whole_alloc x o
theorem Md.parts {h : Nat} {m : MV} {w : World} (x : Md h m w) {pa : Option Addr} {pn pc : Nat} : Md h { m with pa := pa, pn := pn, pc := pc } (w.setCell ⟨h, 11, none⟩ (.slice pa pn pc)) := whole_set x 11 _

attribute [local go_sem ↓] Go.wp_at_zero Go.wp_at_succ
theorem infoPart : (Tryd.prog.info? 65).map (fun i => (i.zero, i.size, i.bytes)) = some (some (.agg #[.int .i64 0, .int .i64 0, .int .i64 0]), 3, 24) := by kernel_rfl

/-- The parts of a head: a row behind it. -/
def Pts (h : Nat) (m : MV) (c : Nat) (w : World) : Prop := ∃ n xs, n ≤ c ∧ w.ownsRow (h + 1) 65 3 (.slice m.pa m.pn m.pc) n xs

/-- The parts of a head, one more. -/
theorem parts_grow {h : Nat} {m : MV} {x w1 : World} {g cap n : Nat} {xs ys : List Value} (hH : Md h m x) (hown : x.ownsRow (h + 1) 65 3 (.slice m.pa m.pn m.pc) n xs)
    (hg : x.grownBy w1 (Value.slice m.pa m.pn m.pc).ownBlock) (hown1 : w1.ownsRow (h + 1) 65 3 (.slice (some ⟨g, 0, none⟩) (n + 1) cap) (n + 1) ys) :
    Md h m w1 ∧ Below h x w1 ∧ Md h { m with pa := some ⟨g, 0, none⟩, pn := n + 1, pc := cap } (w1.setCell ⟨h, 11, none⟩ (.slice (some ⟨g, 0, none⟩) (n + 1) cap)) ∧
    (w1.setCell ⟨h, 11, none⟩ (.slice (some ⟨g, 0, none⟩) (n + 1) cap)).ownsRow (h + 1) 65 3 (.slice (some ⟨g, 0, none⟩) (n + 1) cap) (n + 1) ys ∧
    Below h x (w1.setCell ⟨h, 11, none⟩ (.slice (some ⟨g, 0, none⟩) (n + 1) cap)) := by
  have hne : ∀ k, k ≤ h → some k ≠ (Value.slice m.pa m.pn m.pc).ownBlock := by
    intro k hk e
    have := (hown.lt k e.symm).1; omega
  have h1 : Md h m w1 := (hg.block h hH.lt (hne h (Nat.le_refl _))).trans hH
  have hB : Below h x w1 := ⟨hg.os, hg.tape, hg.output, hg.size, fun k hk => hg.block k (by have := hH.lt; omega) (hne k (by omega))⟩
  refine ⟨h1, hB, h1.parts, ?_, hB.setCell (Nat.le_refl _) _⟩
  refine hown1.kept (row := some h) ⟨rfl, rfl, rfl, by simp [World.setCell], fun k hk hb => Below.heap_setCell _ _ _ _ (fun e => hb (by rw [e]))⟩ ?_
  right
  intro e
  have := (hown1.lt h e).1; omega

set_option maxRecDepth 100000 in
set_option maxHeartbeats 4000000 in
theorem single_any (b h : Nat) (v : Value) (bn bj : Nat) (ms : List MV) (m : MV) (c : Nat) (w : World) (hB : Bk b v bn bj w) (hM : Ms v ms w) (hb : b < h) (hv : ∀ g, v.ownBlock = some g → g < h) (hl : ms.length ≤ 6) (hH : Md h m w) (hP : Pts h m c w) (hc : c ≤ 200) :
    Calls Tryd.prog 28 #[.pointer (some ⟨b, 0, none⟩), .pointer (some ⟨h, 0, none⟩)] w fun e w' => e = .returned (.tuple #[]) ∧ ∃ pa pn pc, Md h { m with pa := pa, pn := pn, pc := pc } w' ∧ Pts h { m with pa := pa, pn := pn, pc := pc } (c + 13) w' ∧ Below h w w' := by
  obtain ⟨i0, hi, hz0, hz1, hz2⟩ := info_parts infoPart
  obtain ⟨n, xs, hn, hown⟩ := hP
  have hhl := hH.lt
  have h11 := hH.c 11
  have z11 := hH.z 11
  simp [mvC] at h11
  go_enter Tryd.func28, Tryd.ntmps28
  go_wp2_with (at_builtin; refine wpList_append_lies _ rfl _ _ 33 rfl (h + 1) 65 i0 (.agg #[.int .i64 0, .int .i64 0, .int .i64 0]) 3 24 Tryd.underlying33 hi hz0 hz1 hz2 rfl (by decide) _ n xs rfl (hown.alloc _) ⟨w.heap.size, 0, none⟩ 1 1 [.int .i64 0, .int .i64 0, .int .i64 0] rfl rfl ?c1 ?c2 (by decide) ?c3 ?c4 ?c5 _ rfl ?_)
  case c1 => exact World.news_of_block (cs := #[.int .i64 0, .int .i64 0, .int .i64 0]) (t := 65) (fr := (0, 0)) (heap_alloc_new w _)
  case c2 => intro u hu; simp at hu; subst hu; rfl
  case c3 => unfold maxLen; omega
  case c4 => omega
  case c5 => simp; omega
  intro g cap w1 hown1 hgrow hat hlt
  obtain ⟨q1, _, q3, q4, q5⟩ := parts_grow (hH.alloc _) (hown.alloc _) hgrow hown1
  replace q5 := (((Below.refl h w).alloc (by omega) _)).trans q5
  have y11 := q1.c 11
  have yz := q1.z 11
  simp [mvC] at y11
  clear hgrow hown1 hat hlt q1 hown h11 z11
  go_wp2_with fail
  generalize hw2 : w1.setCell ⟨h, 11, none⟩ (.slice (some ⟨g, 0, none⟩) (n + 1) cap) = w2 at *
  clear hw2 y11 yz
  go_loopg [4] (ms.length + 1) (fun r x wr => ∃ (k : Nat) (pa : Option Addr) (pn pc n' : Nat) (xs' : List Value), k ≤ ms.length ∧ r = ms.length - k + 1 ∧ x = .int .i64 (k : Int) ∧ n' ≤ n + 1 + 2 * k ∧ Md h { m with pa := pa, pn := pn, pc := pc } wr ∧ wr.ownsRow (h + 1) 65 3 (.slice pa pn pc) n' xs' ∧ Below h w wr)
  case atStart => exact ⟨0, _, _, _, _, _, Nat.zero_le _, rfl, rfl, by omega, q3, q4, q5⟩
  case round =>
    obtain ⟨k, pa, pn, pc, n', xs', hk, rfl, rfl, hn', r1, r2, r3⟩ := hrel
    have hb1 : wr.cell? ⟨b, 0, none⟩ = some v := by rw [r3.cell hb, hB.c 0]; rfl
    by_cases hlt : k < ms.length
    · have hlt' : (k : Int) < (ms.length : Int) := by omega
      rcases hM with ⟨_, rfl⟩ | ⟨g, cap, rfl, hcap, hg, hcell⟩
      · simp at hlt
      · have hgh : g < h := hv g rfl
        have hcl : ∀ j, j < 12 → wr.cell? ⟨g, k * 12 + j, none⟩ = (mvC ms[k])[j]? := fun j hj => (r3.cell hgh).trans (hcell k hlt j hj)
        have l0 := hcl 0 (by omega); have l1 := hcl 1 (by omega); have l2 := hcl 2 (by omega); have l3 := hcl 3 (by omega); have l4 := hcl 4 (by omega); have l5 := hcl 5 (by omega); have l6 := hcl 6 (by omega); have l7 := hcl 7 (by omega); have l8 := hcl 8 (by omega); have l9 := hcl 9 (by omega); have l10 := hcl 10 (by omega); have l11 := hcl 11 (by omega)
        generalize ms[k] = y at *
        simp [mvC] at l0 l1 l2 l3 l4 l5 l6 l7 l8 l9 l10 l11
        have HC : Hid _ := hcell
        clear hcl hcell
        go_wp2_with fail
        have Y : Md wr.heap.size y (wr.alloc (.cells #[.int .i64 (y.batch : Int), .string (bs y.job.name), .int .i64 (y.job.nodes : Int), .int .i64 (y.job.time : Int), .bool y.job.arr, .int .i64 (y.job.lo : Int), .int .i64 (y.job.hi : Int), .string (bs y.job.after), .int .i64 (y.first : Int), .int .i64 (y.count : Int), .string (bs y.want), .slice y.pa y.pn y.pc] 35)) := whole_new wr _
        replace r1 := r1.alloc (.cells #[.int .i64 (y.batch : Int), .string (bs y.job.name), .int .i64 (y.job.nodes : Int), .int .i64 (y.job.time : Int), .bool y.job.arr, .int .i64 (y.job.lo : Int), .int .i64 (y.job.hi : Int), .string (bs y.job.after), .int .i64 (y.first : Int), .int .i64 (y.count : Int), .string (bs y.want), .slice y.pa y.pn y.pc] 35)
        replace r2 := r2.alloc (.cells #[.int .i64 (y.batch : Int), .string (bs y.job.name), .int .i64 (y.job.nodes : Int), .int .i64 (y.job.time : Int), .bool y.job.arr, .int .i64 (y.job.lo : Int), .int .i64 (y.job.hi : Int), .string (bs y.job.after), .int .i64 (y.first : Int), .int .i64 (y.count : Int), .string (bs y.want), .slice y.pa y.pn y.pc] 35)
        have hyl : h < wr.heap.size := by have := r3.size; omega
        replace r3 := r3.alloc (Nat.le_of_lt hyl) (.cells #[.int .i64 (y.batch : Int), .string (bs y.job.name), .int .i64 (y.job.nodes : Int), .int .i64 (y.job.time : Int), .bool y.job.arr, .int .i64 (y.job.lo : Int), .int .i64 (y.job.hi : Int), .string (bs y.job.after), .int .i64 (y.first : Int), .int .i64 (y.count : Int), .string (bs y.want), .slice y.pa y.pn y.pc] 35)
        generalize hyb : wr.heap.size = yb at *
        generalize wr.alloc (.cells #[.int .i64 (y.batch : Int), .string (bs y.job.name), .int .i64 (y.job.nodes : Int), .int .i64 (y.job.time : Int), .bool y.job.arr, .int .i64 (y.job.lo : Int), .int .i64 (y.job.hi : Int), .string (bs y.job.after), .int .i64 (y.first : Int), .int .i64 (y.count : Int), .string (bs y.want), .slice y.pa y.pn y.pc] 35) = x at *
        clear hyb l0 l1 l2 l3 l4 l5 l6 l7 l8 l9 l10 l11 hb1
        have y0 := Y.c 0; have y1 := Y.c 1; have y8 := Y.c 8; have y9 := Y.c 9
        have m0 := r1.c 0; have m1 := r1.c 1; have m11 := r1.c 11; have z11 := r1.z 11
        simp [mvC] at y0 y1 y8 y9 m0 m1 m11
        by_cases hbt : y.batch < m.batch
        · have hbt' : decide ((y.batch : Int) < (m.batch : Int)) = true := by simp; omega
          have hnm : ((bs y.job.name).toList == (bs m.job.name).toList) = (y.job.name == m.job.name) := by rw [bs_toList, bs_toList]
          cases hne : (y.job.name == m.job.name) with
          | true =>
            rw [hne] at hnm
            clear hne
            go_quiet (fail)
            go_wp2_with fail
            replace r1 : Md h _ (x.drewN nq) := r1
            replace r2 : (x.drewN nq).ownsRow (h + 1) 65 3 (.slice pa pn pc) n' xs' := r2
            replace r3 := below_drewN r3 nq
            replace Y : Md yb y (x.drewN nq) := Y
            replace y8 : (x.drewN nq).cell? ⟨yb, 8, none⟩ = some (.int .i64 (y.first : Int)) := y8
            replace y9 : (x.drewN nq).cell? ⟨yb, 9, none⟩ = some (.int .i64 (y.count : Int)) := y9
            replace m11 : (x.drewN nq).cell? ⟨h, 11, none⟩ = some (.slice pa pn pc) := m11
            clear z11 y0 y1 m0 m1
            generalize x.drewN nq = x2 at *
            have z11 := r1.z 11
            have ay := row_ne r2 Y (by decide)
            have ah : (Value.slice pa pn pc).ownBlock ≠ some h := by intro q; have := (r2.lt h q).1; omega
            have hyx := Y.lt
            have hhx := r1.lt
            have fz : ∀ o, (x2.alloc o).drew.frozen? ⟨h, 11, none⟩ = false := fun o => whole_frozen (w := (x2.alloc o).drew) (whole_alloc r1 o) 11
            go_region_law
              ((refine step_append_lies _ (by rfl) _ _ _ (by rfl) (h + 1) 65 i0 _ 3 24 Tryd.underlying33 hi hz0 hz1 hz2 rfl (by omega) (.slice pa pn pc) n' xs' (by rfl) ((r2.alloc _).drew)
                  ⟨x2.heap.size, 0, none⟩ 1 1 [.int .i64 4, .int .i64 (y.first : Int), .int .i64 (y.count : Int)] (by rfl) (by rfl) (World.news_of_block (cs := #[.int .i64 4, .int .i64 (y.first : Int), .int .i64 (y.count : Int)]) (t := 65) (fr := (0, 0)) (heap_alloc_new x2 _)) (by simp [Value.oneCell'])
                  (by omega) (by unfold maxLen; omega) (by omega) (by simp; omega) (x2.heap.size + 1) (by simp) ?_; intro g3 cap3 w3 hown3 hgrow3 hat3 hlt3; have m3 : Md h { m with pa := pa, pn := pn, pc := pc } w3 := (hgrow3.block h (by simp; omega) (Ne.symm ah)).trans (whole_alloc r1 _); have m3c := m3.c 11; have m3z := m3.z 11; simp [mvC] at m3c))
            all_goals
              obtain ⟨p1, p2, p3, p4, p5⟩ := parts_grow (m := { m with pa := pa, pn := pn, pc := pc }) (x := (x2.alloc (.cells #[.int .i64 4, .int .i64 (y.first : Int), .int .i64 (y.count : Int)] 65)).drew) (whole_alloc r1 _) ((r2.alloc _).drew) hgrow3 hown3
              replace p5 := r3.trans (((Below.refl h x2).alloc (by omega) _).drew.trans p5)
              have p5s := p3.lt
              clear hgrow3 hown3 hat3 hlt3 m3 m3z m3c p1 p2 r1 r2 r3 Y y8 y9 m11 z11 ay ah hyx hhx fz
              generalize w3.setCell ⟨h, 11, none⟩ (.slice (some ⟨g3, 0, none⟩) (n' + 1) cap3) = w4 at *
              have c11 := p3.c 11
              have cz := p3.z 11
              simp [mvC] at c11
              go_wp2_with (at_builtin; refine wpList_append_lies _ rfl _ _ 33 rfl (h + 1) 65 i0 (.agg #[.int .i64 0, .int .i64 0, .int .i64 0]) 3 24 Tryd.underlying33 hi hz0 hz1 hz2 rfl (by decide) _ (n' + 1) _ rfl (p4.alloc _) ⟨w4.heap.size, 0, none⟩ 1 1 [.int .i64 5, .int .i64 0, .int .i64 0] rfl rfl (World.news_of_block (cs := #[.int .i64 5, .int .i64 0, .int .i64 0]) (t := 65) (fr := (0, 0)) (heap_alloc_new w4 _)) ?c2 (by decide) ?c3 ?c4 ?c5 _ rfl ?_)
              case c2 => first | exact ⟨rfl, rfl⟩ | (intro u hu; simp at hu; rcases hu with rfl | rfl <;> rfl)
              case c3 => unfold maxLen; omega
              case c4 => omega
              case c5 => first | omega | (simp; omega)
              intro g5 cap5 w5 hown5 hgrow5 hat5 hlt5
              obtain ⟨s1, _, s3, s4, s5⟩ := parts_grow (p3.alloc _) (p4.alloc _) hgrow5 hown5
              replace s5 := p5.trans (((Below.refl h w4).alloc (by omega) _).trans s5)
              have d11 := s1.c 11
              have dz := s1.z 11
              simp [mvC] at d11
              clear hgrow5 hown5 hat5 hlt5 s1 c11 cz p3 p4 p5
              go_wp2_with fail
              go_roundg (ms.length - (k + 1) + 1)
              case measure => omega
              case rel => exact ⟨k + 1, _, _, _, _, _, by omega, rfl, by go_num, by omega, s3, s4, s5⟩
          | false =>
            rw [hne] at hnm
            clear hne
            go_quiet (fail)
            go_wp2_with fail
            go_roundg (ms.length - (k + 1) + 1)
            case measure => omega
            case rel => exact ⟨k + 1, pa, pn, pc, n', xs', by omega, rfl, by go_num, by omega, r1, r2, below_drewN r3 _⟩
        · have hbt' : decide ((y.batch : Int) < (m.batch : Int)) = false := by simp; omega
          go_quiet (fail)
          go_wp2_with fail
          go_roundg (ms.length - (k + 1) + 1)
          case measure => omega
          case rel => exact ⟨k + 1, pa, pn, pc, n', xs', by omega, rfl, by go_num, by omega, r1, r2, below_drewN r3 _⟩
    · have hlt' : decide ((k : Int) < (ms.length : Int)) = false := by simp; omega
      have hlen : (∃ a d, v = .slice a ms.length d) := by
        rcases hM with ⟨rfl, rfl⟩ | ⟨g, cap, rfl, _⟩
        · exact ⟨_, _, rfl⟩
        · exact ⟨_, _, rfl⟩
      obtain ⟨a1, d1, rfl⟩ := hlen
      go_wp2_with fail
      go_end0
      exact ⟨rfl, pa, pn, pc, r1, ⟨n', xs', by omega, r2⟩, r3⟩

end Go.Proofs.YtanknpmojblmcaaDoor
