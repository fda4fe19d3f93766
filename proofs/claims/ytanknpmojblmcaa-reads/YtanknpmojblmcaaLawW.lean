/-
  read of the law: true, where the document's answer and the program's agree.
-/
import Derived.Test.YtanknpmojblmcaaSameW
set_option linter.unusedSimpArgs false
set_option linter.unusedVariables false
namespace Go.Proofs.Ytanknpmojblmcaa
open Go.RowKit

def rjC (x : RV) : Array Value := #[.string (bs x.name), .int .i64 x.nodes, .int .i64 x.time, .bool x.arr, .int .i64 x.lo, .int .i64 x.hi, .string (bs x.after)]
/-- The document's answer and the program's agree at a text. -/
structure Agree (L : List UInt8) (f : Nat) : Prop where
  ok : L.length ≤ 600 → placeO st0 L 0 = none → HeadsOK L f ∧ (∀ x ∈ rhds L f, RSmall x) ∧ (rhds L f).length ≤ 700
  err : (refR L f).2.1 = (readH L).2.1
  place : (refR L f).2.2 = ((readH L).2.2 : Int)
  heads : (readH L).2.1 = 0 → (refR L f).1.map rjC = (readJ L).map jvC

theorem readJ_len (L : List UInt8) : (readJ L).length ≤ 601 := by
  unfold readJ
  split
  · simp; exact readH_len L
  · simp

set_option maxHeartbeats 4000000 in
theorem read_good (T : ByteArray) (f : Nat) (w : World) (hT : T.size ≤ maxLen) (hA : Agree T.data.toList f) :
    Calls Try.prog 5 #[.string T] w fun e w' => ∃ v, e = .returned (.tuple #[v, .bool true]) ∧ Below w.heap.size w w' := by
  obtain ⟨i0, hi, hz0, hz1, hz2⟩ := info_parts infoJob
  have hlenT : T.data.toList.length = T.size := by simp
  obtain ⟨aok, aerr, apl, ahd⟩ := hA
  rw [hlenT] at aok
  have hjl := readJ_len T.data.toList
  have her := readH_err T.data.toList
  have HJE : Hid ((readH T.data.toList).2.1 ≠ 0 → readJ T.data.toList = []) := by intro h; unfold readJ; rw [if_neg h]
  have HOK : Hid _ := aok
  clear aok hlenT
  go_enter Try.func5, Try.ntmps5
  go_wp2_with fail
  refine (Read_any T _ hT).mono ?_
  rintro e w1 ⟨v, rfl, hown1, hB1⟩
  go_wp2_with fail
  refine (refRead_any T f _ hT HOK.out).mono ?_
  rintro e w2 ⟨u, rfl, hown2, hB2⟩
  rw [aerr, apl]
  replace hown1 := owns_below hown1 hB2
  replace hown2 := ownsRow_base hown2 hB1.size
  replace hB2 := hB1.trans (hB2.mono hB1.size)
  generalize readJ T.data.toList = js at *
  generalize (refR T.data.toList f).1 = rs at *
  generalize (readH T.data.toList).2.1 = er at *
  generalize (readH T.data.toList).2.2 = pp at *
  clear aerr apl hB1
  have hJ := Js.of hown1
  by_cases h0 : er = 0
  · subst h0
    have hmap := ahd rfl
    have hlen : rs.length = js.length := by have := congrArg List.length hmap; simpa using this
    clear ahd HJE
    have HK : Hid (∀ k (h1 : k < rs.length) (h2 : k < js.length), rjC rs[k] = jvC js[k]) := by
      intro k h1 h2
      have e := congrArg (fun l => l[k]?) hmap
      simpa [List.getElem?_map, List.getElem?_eq_getElem h1, List.getElem?_eq_getElem h2] using e
    clear hmap
    rcases Rs.of hown2 with ⟨rfl, rfl⟩ | ⟨g, cap, rfl, hc, hg, hcell⟩
    · have hjn : js = [] := List.eq_nil_of_length_eq_zero (by rw [← hlen]; rfl)
      subst hjn
      go_wp2_with fail
      go_loopg [10, 11] 1 (fun k y x wr => k = 1 ∧ y = .slice none 0 0 ∧ x = .int .i64 0 ∧ wr = w2)
      case atStart => exact ⟨rfl, rfl, rfl, rfl⟩
      case round =>
        obtain ⟨rfl, rfl, rfl, rfl⟩ := hrel
        go_wp2_with fail
        refine (sameJobs_eq v (.slice none 0 0) [] _ hJ (Or.inl ⟨rfl, rfl⟩) (by simp)).mono ?_
        rintro e w3 ⟨rfl, hB3⟩
        go_wp2_with fail
        go_ret2
        exact ⟨_, rfl, hB2.trans (hB3.mono hB2.size)⟩
    · have HC : Hid _ := hcell
      clear hcell
      have HLEN : Hid (rs.length = js.length) := hlen
      have hrl : rs.length ≤ 601 := by omega
      clear hlen
      go_wp2_with fail
      go_loopg [10, 11] rs.length (fun m y x wr => ∃ k : Nat, m = rs.length - k ∧ k ≤ rs.length ∧ x = .int .i64 (k : Int) ∧ Below w2.heap.size w2 wr ∧ wr.ownsRow w2.heap.size 37 7 y (js.take k).length (flatJ (js.take k)))
      case atStart => exact ⟨0, rfl, Nat.zero_le _, rfl, Below.refl _ _, World.ownsRow_nil _ _ _ _⟩
      case round =>
        obtain ⟨k, rfl, hk, rfl, hB3, hown3⟩ := hrel
        by_cases hlt : k < rs.length
        · have hlt' : (k : Int) < (rs.length : Int) := by omega
          have hltj : k < js.length := by rw [← HLEN.out]; exact hlt
          have hcl : ∀ j, j < 13 → wr.cell? ⟨g, k * 13 + j, none⟩ = (rvC rs[k])[j]? := fun j hj => (hB3.cell hg).trans (HC.out k hlt j hj)
          have l0 := hcl 0 (by omega); have l1 := hcl 1 (by omega); have l2 := hcl 2 (by omega); have l3 := hcl 3 (by omega); have l4 := hcl 4 (by omega); have l5 := hcl 5 (by omega); have l6 := hcl 6 (by omega)
          have HX : Hid (js.take (k + 1) = js.take k ++ [js[k]]) := List.take_succ_eq_append_getElem hltj
          have HR : Hid (rjC rs[k] = jvC js[k]) := HK.out k hlt hltj
          have hlk : (js.take k).length ≤ 601 := by simp; omega
          generalize js[k] = y at *
          generalize rs[k] = x at *
          simp [rvC] at l0 l1 l2 l3 l4 l5 l6
          clear hcl
          have q1 := hB3.size
          generalize js.take k = ks at *
          go_wp2_with (at_builtin; refine wpList_append_own _ rfl _ _ 25 rfl w2.heap.size 37 i0 (.agg (jvC jv0)) 7 72 Try.underlying25 hi hz0 hz1 hz2 rfl (by decide) _ _ _ rfl (hown3.alloc _) ⟨wr.heap.size, 0, none⟩ 1 1 (rjC x).toList rfl rfl ?c1 ?c2 ?c3 ?c4 ?c5 ?_)
          case c1 => exact new_cells (t := 37) (whole_new wr (.cells (rjC x) 37))
          case c2 => intro u hu; simp [rjC] at hu; rcases hu with rfl | rfl | rfl | rfl | rfl | rfl | rfl <;> rfl
          case c3 => unfold maxLen; omega
          case c4 => omega
          case c5 => simp; omega
          intro v4 w4 hown4 hgrow4 _
          have hB4 : Below w2.heap.size w2 w4 := (hB3.alloc (by omega) _).grown hgrow4 (by simp; omega) (fun k hk => (hown3.lt k hk).1)
          rw [HR.out, ← flatJ_snoc] at hown4
          replace hown4 : w4.ownsRow w2.heap.size 37 7 v4 (js.take (k + 1)).length (flatJ (js.take (k + 1))) := by rw [HX.out]; simpa using hown4
          clear hgrow4 hown3 hB3
          go_wp2_with fail
          go_roundg (rs.length - (k + 1))
          case measure => omega
          case rel => exact ⟨k + 1, rfl, hlt, by go_num, hB4, hown4⟩
        · have hlt' : decide ((k : Int) < (rs.length : Int)) = false := by simp; omega
          rw [List.take_of_length_le (by rw [← HLEN.out]; omega)] at hown3
          have hJ3 := Js.of (owns_below hown1 hB3)
          have hK3 := Js.of hown3
          go_wp2_with fail
          refine (sameJobs_eq v _ js _ hJ3 hK3 (by omega)).mono ?_
          rintro e w3 ⟨rfl, hB4⟩
          go_wp2_with fail
          go_ret2
          exact ⟨_, rfl, (hB2.trans (hB3.mono hB2.size)).trans (hB4.mono (Nat.le_trans hB2.size hB3.size))⟩
  · have hjn : js = [] := HJE.out h0
    subst hjn
    have f1 : ((er : Int) != 0) = true := by rw [bne_iff_ne]; omega
    clear ahd HJE h0
    rcases hJ with ⟨rfl, -⟩ | ⟨g, cap, rfl, hc, hg, hcell⟩
    all_goals
      try simp only [List.length_nil]
      go_wp2_with fail
      go_ret2
      exact ⟨_, rfl, hB2⟩

/-- A script that came in: what is read of its steps. -/
def IsOps (w : World) (a : Option Addr) (len cap : Nat) : Prop :=
  (a = none ∧ len = 0 ∧ cap = 0) ∨
  ∃ x : Addr, a = some x ∧ len ≤ cap ∧ cap ≤ maxLen ∧ ∀ i, i < len → ∃ (n : Int) (s : ByteArray), w.cell? (x.add (i * 6)) = some (.int .i64 n) ∧ w.cell? ((x.add (i * 6)).add 4) = some (.string s) ∧ s.size ≤ maxLen

set_option maxHeartbeats 2000000 in
theorem Reads_walk (agree : ∀ L, Agree L 700) (a : Option Addr) (len cap : Nat) (w : World) (h : IsOps w a len cap) :
    Calls Try.prog 3 #[.slice a len cap] w fun e w' => e = .returned (.bool true) ∧ Below w.heap.size w w' := by
  rcases h with ⟨rfl, rfl, rfl⟩ | ⟨x, rfl, hl, hm, hc⟩
  · go_enter Try.func3, Try.ntmps3
    go_wp2_with fail
    go_loopg [3] 1 (fun k x wr => k = 1 ∧ x = .int .i64 0 ∧ wr = w)
    case atStart => exact ⟨rfl, rfl, rfl⟩
    case round =>
      obtain ⟨rfl, rfl, rfl⟩ := hrel
      go_wp2_with fail
      go_ret
      exact ⟨rfl, Below.refl _ _⟩
  · unfold maxLen at hm
    have HC : Hid _ := hc
    have HA : Hid (∀ L, Agree L 700) := agree
    clear hc agree
    go_enter Try.func3, Try.ntmps3
    go_wp2_with fail
    go_loopg [3] len (fun m y wr => ∃ k : Nat, m = len - k ∧ k ≤ len ∧ y = .int .i64 (k : Int) ∧ Below w.heap.size w wr)
    case atStart => exact ⟨0, rfl, Nat.zero_le _, rfl, Below.refl _ _⟩
    case round =>
      obtain ⟨k, rfl, hk, rfl, hB⟩ := hrel
      by_cases hlt : k < len
      · have hlt' : (k : Int) < (len : Int) := by omega
        obtain ⟨n, s, h1, h2, h3⟩ := HC.out k hlt
        obtain ⟨b, off, spot⟩ := x
        have hspot : spot = none := by
          have := World.cell?_spot h1
          unfold Addr.add at this
          split at this
          · exact this
          · rename_i hz
            have h0 := HC.out 0 (by omega)
            obtain ⟨n0, s0, g1, -, -⟩ := h0
            simpa [Addr.add] using World.cell?_spot g1
        subst hspot
        have e1 : (⟨b, off, none⟩ : Addr).add (k * 6) = ⟨b, off + k * 6, none⟩ := by unfold Addr.add; split <;> simp_all
        have e2 : (⟨b, off + k * 6, none⟩ : Addr).add 4 = ⟨b, off + k * 6 + 4, none⟩ := by simp [Addr.add]
        rw [e1] at h1 h2
        rw [e2] at h2
        have hbl : b < w.heap.size := World.block_lt_of_cell? w _ h1
        replace h1 := (hB.cell (p := ⟨b, off + k * 6, none⟩) hbl).trans h1
        replace h2 := (hB.cell (p := ⟨b, off + k * 6 + 4, none⟩) hbl).trans h2
        clear e1 e2
        by_cases hn : n = 1
        · subst hn
          go_wp2_with fail
          refine (read_good s 700 _ h3 (HA.out _)).mono ?_
          rintro e w1 ⟨v, rfl, hB1⟩
          replace hB1 := hB.trans (hB1.mono hB.size)
          go_wp2_with fail
          go_roundg (len - (k + 1))
          case measure => omega
          case rel => exact ⟨k + 1, rfl, hlt, by go_num, hB1⟩
        · have hn' : (n == 1) = false := by rw [beq_eq_false_iff_ne]; exact hn
          clear hn
          go_wp2_with fail
          go_roundg (len - (k + 1))
          case measure => omega
          case rel => exact ⟨k + 1, rfl, hlt, by go_num, hB⟩
      · have hlt' : decide ((k : Int) < (len : Int)) = false := by simp; omega
        go_wp2_with fail
        go_ret
        exact ⟨rfl, hB⟩

end Go.Proofs.Ytanknpmojblmcaa
