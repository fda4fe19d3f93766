/-
  Package link: the jobs that a reference names.
-/
import Derived.Test.YtanknpmojblmcaaGreatDoorLkD
set_option linter.unusedSimpArgs false
set_option linter.unusedVariables false
namespace Go.Proofs.YtanknpmojblmcaaGreatDoor
open Go.RowKit

theorem infoIntL : (Tryz.prog.info? 3).map (fun i => (i.zero, i.size, i.bytes)) = some (some (.int .i64 0), 1, 8) := by kernel_rfl
def iV (n : Nat) : Value := .int .i64 (n : Int)
theorem Ns.of {w : World} {base : Nat} {v : Value} {js : List Nat} (h : w.ownsRow base 3 1 v js.length (js.map iV)) : Ns v js w := by
  rcases h.2 with ⟨hv, hn⟩ | ⟨g, cap, cur, hv, h1, h2, h3, h4, h5, h6⟩
  · exact Or.inl ⟨hv, List.eq_nil_of_length_eq_zero hn⟩
  · right
    subst hv
    refine ⟨g, cap, rfl, h3, whole_lt h2, ?_⟩
    intro k hk
    rw [h.cellAt k (by omega)]
    simp [hk, iV]

/-- The jobs that a reference names. -/
def jobsG (o : Option GV) (nbd : Bool) (num : Nat) : List Nat :=
  match o with
  | none => []
  | some g => if nbd then [g.first + num - g.lo] else (List.range g.count).map (g.first + ·)

set_option maxRecDepth 100000 in
set_option maxHeartbeats 1000000 in
theorem lkNamed (v u : Value) (before own : List GV) (pos : Nat) (nm : List UInt8) (nbd : Bool) (num : Nat) (w : World) (hB : Gs v before w) (hO : Gs u own w) (hl : before.length ≤ 1000) (hm : own.length ≤ 1000)
    (hg : ∀ g, meantG before own nm = some g → g.lo ≤ 1000 ∧ g.count ≤ 1000 ∧ g.first ≤ 1000 ∧ (nbd = true → g.lo ≤ num)) (hnum : num ≤ 100000) :
    Calls Tryz.prog 89 #[v, u, .agg #[.int .i64 (pos : Int), .string (bs nm), .bool nbd, .int .i64 (num : Int)]] w fun e w' => ∃ x, e = .returned x ∧ Ns x (jobsG (meantG before own nm) nbd num) w' ∧ Below w.heap.size w w' := by
  obtain ⟨a, c, rfl⟩ := hB.form
  obtain ⟨a', c', rfl⟩ := hO.form
  go_enter Tryz.func89, Tryz.ntmps89
  go_wp2_with fail
  have Y : (w.alloc (.cells #[.int .i64 (pos : Int), .string (bs nm), .bool nbd, .int .i64 (num : Int)] 110)).heap[w.heap.size]? = _ := whole_new w (.cells #[.int .i64 (pos : Int), .string (bs nm), .bool nbd, .int .i64 (num : Int)] 110 (0, 0))
  have hw0 := (Below.refl _ w).alloc (Nat.le_refl _) (.cells #[.int .i64 (pos : Int), .string (bs nm), .bool nbd, .int .i64 (num : Int)] 110)
  have hB0 := hB.below hw0
  have hO0 := hO.below hw0
  generalize w.alloc (.cells #[.int .i64 (pos : Int), .string (bs nm), .bool nbd, .int .i64 (num : Int)] 110) = x0 at *
  obtain ⟨h, hh⟩ : ∃ h, h = w.heap.size := ⟨_, rfl⟩
  rw [← hh] at Y hw0 ⊢
  have HH : Hid (h = w.heap.size) := hh
  clear hh hB hO
  refine (lkMeant _ _ before own nm x0 hB0 hO0 hl hm).mono ?_
  rintro e w1 ⟨rfl, hw1⟩
  have Y1 : w1.heap[h]? = _ := (hw1.block h (whole_lt Y)).trans Y
  replace hw1 : Below h w w1 := hw0.trans (hw1.mono (Nat.le_of_lt (whole_lt Y)))
  have c2 := whole_cell Y1 2; have c3 := whole_cell Y1 3
  simp at c2 c3
  clear Y hB0 hO0 hw0
  have hs1 : h < w1.heap.size := whole_lt Y1
  cases eo : meantG before own nm with
  | none =>
    have HO : Hid (meantG before own nm = none) := eo
    clear eo
    simp only [meantV, Option.getD, Option.isSome, gvC, noG]
    go_wp2_with fail
    go_ret
    rw [HO.out, ← HH.out]
    exact ⟨_, rfl, Or.inl ⟨rfl, rfl⟩, hw1.alloc (by omega) _⟩
  | some g =>
    obtain ⟨g1, g2, g3, g4⟩ := hg g eo
    have HO : Hid (meantG before own nm = some g) := eo
    clear eo hg
    simp only [meantV, Option.getD, Option.isSome, gvC]
    cases nbd with
    | true =>
      have g5 := g4 rfl
      obtain ⟨jn, hjn⟩ : ∃ jn : Nat, jn = g.first + num - g.lo := ⟨_, rfl⟩
      have ej : (g.first : Int) + (num : Int) - (g.lo : Int) = (jn : Int) := by omega
      have HJ : Hid (jn = g.first + num - g.lo) := hjn
      clear hjn g4
      go_wp2_with fail
      go_ret
      rw [HO.out, ← HH.out]
      refine ⟨_, rfl, ?_, (hw1.alloc (by omega) _).alloc (by simp; omega) _⟩
      show Ns _ [g.first + num - g.lo] _
      rw [← HJ.out]
      refine Or.inr ⟨w1.heap.size + 1, 1, rfl, Nat.le_refl _, by simp, ?_⟩
      intro k hk
      obtain rfl : k = 0 := by simp at hk; omega
      exact whole_cell (c := #[.int .i64 (jn : Int)]) (heap_alloc2_new w1 _ _) 0
    | false =>
      clear g4
      obtain ⟨i0, hI0, hz0, hz1, hz2⟩ := info_parts infoIntL
      go_wp2_with fail
      have Yg : (w1.alloc (.cells #[.string (bs g.name), .bool g.arr, .int .i64 (g.lo : Int), .int .i64 (g.first : Int), .int .i64 (g.count : Int)] 107)).heap[w1.heap.size]? = _ := whole_new w1 (.cells (gvC g) 107 (0, 0))
      have hw2 := hw1.alloc (Nat.le_of_lt hs1) (.cells #[.string (bs g.name), .bool g.arr, .int .i64 (g.lo : Int), .int .i64 (g.first : Int), .int .i64 (g.count : Int)] 107)
      generalize w1.alloc (.cells #[.string (bs g.name), .bool g.arr, .int .i64 (g.lo : Int), .int .i64 (g.first : Int), .int .i64 (g.count : Int)] 107) = x2 at *
      generalize w1.heap.size = hb at *
      have d3 := whole_cell Yg 3; have d4 := whole_cell Yg 4
      simp [gvC] at d3 d4
      have hlb := whole_lt Yg
      have hx2 : h ≤ x2.heap.size := by omega
      go_loopg [9, 10] (g.count + 1) (fun r sv x wr => ∃ (k : Nat) (wz : World), wz = wr ∧ k ≤ g.count ∧ r = g.count - k + 1 ∧ x = .int .i64 (k : Int) ∧ wz.ownsRow x2.heap.size 3 1 sv k (((List.range k).map (g.first + ·)).map iV) ∧ Below x2.heap.size x2 wz)
      case atStart => exact ⟨0, _, rfl, Nat.zero_le _, rfl, rfl, World.ownsRow_nil _ _ _ _, Below.refl _ _⟩
      case round =>
        obtain ⟨k, wz, rfl, hk, rfl, rfl, hown, hBx⟩ := hrel
        have b3 := (hBx.cell (p := ⟨hb, 3, none⟩) hlb).trans d3
        have b4 := (hBx.cell (p := ⟨hb, 4, none⟩) hlb).trans d4
        by_cases hlt : k < g.count
        · have hlt' : (k : Int) < (g.count : Int) := by omega
          have hsz := hBx.size
          obtain ⟨jn, hjn⟩ : ∃ jn : Nat, jn = g.first + k := ⟨_, rfl⟩
          have ej : (g.first : Int) + (k : Int) = (jn : Int) := by omega
          have HJ : Hid (jn = g.first + k) := hjn
          clear hjn
          go_wp2_with (at_builtin; refine wpList_append_own _ rfl _ _ 36 rfl x2.heap.size 3 i0 (.int .i64 0) 1 8 Tryz.underlying36 hI0 hz0 hz1 hz2 rfl (by decide) _ k _ rfl (hown.alloc _) ⟨wz.heap.size, 0, none⟩ 1 1 [.int .i64 (jn : Int)] rfl rfl (World.news_of_block (cs := #[.int .i64 (jn : Int)]) (t := 3) (fr := (0, 0)) (heap_alloc_new wz _)) ?c2 ?c3 ?c4 ?c5 ?_)
          case c2 => first | rfl | (intro u hu; simp at hu; subst hu; rfl)
          case c3 => unfold maxLen; omega
          case c4 => omega
          case c5 => first | omega | (simp; omega)
          intro v4 x4 hown4 hgrow4 _
          have hBx4 : Below x2.heap.size x2 x4 := (hBx.alloc (by omega) _).grown hgrow4 (by simp; omega) (fun q hq => (hown.lt q hq).1)
          replace hown4 : x4.ownsRow x2.heap.size 3 1 v4 (k + 1) (((List.range (k + 1)).map (g.first + ·)).map iV) := by
            rw [List.range_succ, List.map_append, List.map_append]; simpa [iV, HJ.out] using hown4
          clear hgrow4 hown hBx
          go_wp2_with fail
          go_roundg (g.count - (k + 1) + 1)
          case measure => omega
          case rel => exact ⟨k + 1, _, rfl, by omega, rfl, by go_num, hown4, hBx4⟩
        · have hlt' : decide ((k : Int) < (g.count : Int)) = false := by simp; omega
          have hke : k = g.count := by omega
          have HK : Hid (k = g.count) := hke
          clear hke
          go_wp2_with fail
          go_ret
          rw [HO.out, ← HH.out]
          refine ⟨_, rfl, ?_, hw2.trans (hBx.mono hx2)⟩
          show Ns _ ((List.range g.count).map (g.first + ·)) _
          rw [← HK.out]
          exact Ns.of (by simpa using hown)

end Go.Proofs.YtanknpmojblmcaaGreatDoor
