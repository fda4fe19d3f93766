/-
  The law's states, sameInts, exec.
-/
import Derived.Test.YtanknpmojblmcaaXLaw
import Derived.Laws.CopyOwn
import Derived.Deep.OwnRows
set_option linter.unusedSimpArgs false
set_option linter.unusedVariables false
namespace Go.Proofs.Ytanknpmojblmcaa
open Go.RowKit

def iV (n : Int) : Value := .int .i64 n
/-- The state that a byte is. -/
def stN (c : Nat) : Int := if c = 255 then -9223372036854775808 else if c = 254 then 9223372036854775807 else if 200 ≤ c then 199 - (c : Int) else (c : Int)
def stL (L : List UInt8) : List Int := L.map fun c => stN c.toNat
theorem stL_take (T : ByteArray) (k : Nat) (h : k < T.size) : (stL (T.data.toList.take (k + 1))) = stL (T.data.toList.take k) ++ [stN T[k].toNat] := by
  have h' : k < T.data.toList.length := by simpa using h
  rw [List.take_succ_eq_append_getElem h']
  simp [stL]; rfl

theorem ints_of_row {w : World} {base : Nat} {v : Value} {ns : List Int} (h : w.ownsRow base 3 1 v ns.length (ns.map iV)) : IntsB w.heap.size v ns w := by
  rcases h.2 with ⟨hv, hn⟩ | ⟨g, cap, cur, hv, h1, h2, h3, h4, h5, h6⟩
  · exact Or.inl ⟨hv, List.eq_nil_of_length_eq_zero hn⟩
  · right
    subst hv
    refine ⟨g, cap, rfl, h3, whole_lt h2, ?_⟩
    intro k hk
    rw [h.cellAt k (by omega)]
    simp [iV, List.getElem?_eq_getElem hk]

attribute [local go_sem ↓] Go.wp_at_zero Go.wp_at_succ
set_option maxRecDepth 100000 in
set_option maxHeartbeats 4000000 in
theorem states_any (T : ByteArray) (w : World) (hT : T.size ≤ 1048576) :
    Calls Try.prog 10 #[.string T] w fun e w' => ∃ v, e = .returned v ∧ w'.ownsRow w.heap.size 3 1 v (stL T.data.toList).length ((stL T.data.toList).map iV) ∧ Below w.heap.size w w' := by
  obtain ⟨i0, hi, hz0, hz1, hz2⟩ := info_parts infoInt
  have hlen : T.data.toList.length = T.size := by simp
  go_enter Try.func10, Try.ntmps10
  go_wp2_with fail
  go_loopg [3, 4] (T.size + 1) (fun r v x wr => ∃ (k : Nat) (ns : List Int), k ≤ T.size ∧ r = T.size - k + 1 ∧ x = .int .i64 (k : Int) ∧ ns.length = k ∧ wr.ownsRow w.heap.size 3 1 v k (ns.map iV) ∧ Below w.heap.size w wr ∧ Hid (ns = stL (T.data.toList.take k)))
  case atStart => exact ⟨0, [], Nat.zero_le _, rfl, rfl, rfl, World.ownsRow_nil _ _ _ _, Below.refl _ w, by show _ = _; simp [stL]⟩
  case round =>
    obtain ⟨k, ns, hk, rfl, rfl, hns, hown, hB, HN⟩ := hrel
    by_cases hlt : k < T.size
    · have hlt' : (k : Int) < (T.size : Int) := by omega
      have HN2 : Hid (ns ++ [stN T[k].toNat] = stL (T.data.toList.take (k + 1))) := by
        show _ = _
        rw [stL_take T k hlt, HN.out]
      have hop := T[k].toNat_lt
      have hsz := hB.size
      have KEY : ∀ n : Int, (n = stN T[k].toNat) → ∀ (v4 : Value) (w4 : World), w4.ownsRow w.heap.size 3 1 v4 (k + 1) (ns.map iV ++ [Value.int .i64 n]) → w4.ownsRow w.heap.size 3 1 v4 (k + 1) ((ns ++ [stN T[k].toNat]).map iV) := by
        intro n hn v4 w4 h
        rw [← hn]; simpa [iV] using h
      have HK : Hid _ := KEY
      clear KEY
      by_cases h255 : T[k].toNat = 255
      · have q1 : ((T[k].toNat : Int) == 255) = true := beqT (by omega)
        have HS : Hid (stN T[k].toNat = -9223372036854775808) := by show _ = _; unfold stN; rw [if_pos h255]
        clear h255
        go_wp2_with (at_builtin; refine wpList_append_own _ rfl _ _ 41 rfl w.heap.size 3 i0 (.int .i64 0) 1 8 Try.underlying41 hi hz0 hz1 hz2 rfl (by decide) _ k _ rfl (hown.alloc _) ⟨wr.heap.size, 0, none⟩ 1 1 [_] rfl rfl (World.news_of_block (cs := #[_]) (t := 3) (fr := (0, 0)) (heap_alloc_new wr _)) ?c2 ?c3 ?c4 ?c5 ?_)
        case c2 => first | rfl | (intro u hu; simp at hu; subst hu; rfl)
        case c3 => unfold maxLen; omega
        case c4 => omega
        case c5 => first | omega | (simp; omega)
        intro v4 w4 hown4 hgrow4 _
        have hB4 : Below w.heap.size w w4 := (hB.alloc (by omega) _).grown hgrow4 (by simp; omega) (fun k hk => (hown.lt k hk).1)
        replace hown4 := HK.out _ (by rw [HS.out]) v4 w4 hown4
        clear hgrow4 hown hB
        go_wp2_with fail
        go_roundg (T.size - (k + 1) + 1)
        case measure => omega
        case rel => exact ⟨k + 1, _, by omega, rfl, by go_num, by simp [hns], hown4, hB4, HN2⟩
      · have q1 : ((T[k].toNat : Int) == 255) = false := beqF (by omega)
        by_cases h254 : T[k].toNat = 254
        · have q2 : ((T[k].toNat : Int) == 254) = true := beqT (by omega)
          have HS : Hid (stN T[k].toNat = 9223372036854775807) := by show _ = _; unfold stN; rw [if_neg h255, if_pos h254]
          clear h254 h255
          go_wp2_with (at_builtin; refine wpList_append_own _ rfl _ _ 41 rfl w.heap.size 3 i0 (.int .i64 0) 1 8 Try.underlying41 hi hz0 hz1 hz2 rfl (by decide) _ k _ rfl (hown.alloc _) ⟨wr.heap.size, 0, none⟩ 1 1 [_] rfl rfl (World.news_of_block (cs := #[_]) (t := 3) (fr := (0, 0)) (heap_alloc_new wr _)) ?c2 ?c3 ?c4 ?c5 ?_)
          case c2 => first | rfl | (intro u hu; simp at hu; subst hu; rfl)
          case c3 => unfold maxLen; omega
          case c4 => omega
          case c5 => first | omega | (simp; omega)
          intro v4 w4 hown4 hgrow4 _
          have hB4 : Below w.heap.size w w4 := (hB.alloc (by omega) _).grown hgrow4 (by simp; omega) (fun k hk => (hown.lt k hk).1)
          replace hown4 := HK.out _ (by rw [HS.out]) v4 w4 hown4
          clear hgrow4 hown hB
          go_wp2_with fail
          go_roundg (T.size - (k + 1) + 1)
          case measure => omega
          case rel => exact ⟨k + 1, _, by omega, rfl, by go_num, by simp [hns], hown4, hB4, HN2⟩
        · have q2 : ((T[k].toNat : Int) == 254) = false := beqF (by omega)
          by_cases h200 : 200 ≤ T[k].toNat
          · have q3 : (200 : Int) ≤ (T[k].toNat : Int) := by omega
            have HS : Hid (stN T[k].toNat = 199 - (T[k].toNat : Int)) := by show _ = _; unfold stN; rw [if_neg h255, if_neg h254, if_pos h200]
            have e0 : (0 : Int) - ((T[k].toNat : Int) - 199) = 199 - (T[k].toNat : Int) := by omega
            clear h254 h255 h200
            go_wp2_with (at_builtin; refine wpList_append_own _ rfl _ _ 41 rfl w.heap.size 3 i0 (.int .i64 0) 1 8 Try.underlying41 hi hz0 hz1 hz2 rfl (by decide) _ k _ rfl (hown.alloc _) ⟨wr.heap.size, 0, none⟩ 1 1 [_] rfl rfl (World.news_of_block (cs := #[_]) (t := 3) (fr := (0, 0)) (heap_alloc_new wr _)) ?c2 ?c3 ?c4 ?c5 ?_)
            case c2 => first | rfl | (intro u hu; simp at hu; subst hu; rfl)
            case c3 => unfold maxLen; omega
            case c4 => omega
            case c5 => first | omega | (simp; omega)
            intro v4 w4 hown4 hgrow4 _
            have hB4 : Below w.heap.size w w4 := (hB.alloc (by omega) _).grown hgrow4 (by simp; omega) (fun k hk => (hown.lt k hk).1)
            replace hown4 := HK.out _ (by first | exact HS.out.symm | (rw [HS.out]; omega)) v4 w4 hown4
            clear hgrow4 hown hB
            go_wp2_with fail
            go_roundg (T.size - (k + 1) + 1)
            case measure => omega
            case rel => exact ⟨k + 1, _, by omega, rfl, by go_num, by simp [hns], hown4, hB4, HN2⟩
          · have q3 : decide ((200 : Int) ≤ (T[k].toNat : Int)) = false := by simp; omega
            have HS : Hid (stN T[k].toNat = (T[k].toNat : Int)) := by show _ = _; unfold stN; rw [if_neg h255, if_neg h254, if_neg h200]
            clear h254 h255 h200
            go_wp2_with (at_builtin; refine wpList_append_own _ rfl _ _ 41 rfl w.heap.size 3 i0 (.int .i64 0) 1 8 Try.underlying41 hi hz0 hz1 hz2 rfl (by decide) _ k _ rfl (hown.alloc _) ⟨wr.heap.size, 0, none⟩ 1 1 [_] rfl rfl (World.news_of_block (cs := #[_]) (t := 3) (fr := (0, 0)) (heap_alloc_new wr _)) ?c2 ?c3 ?c4 ?c5 ?_)
            case c2 => first | rfl | (intro u hu; simp at hu; subst hu; rfl)
            case c3 => unfold maxLen; omega
            case c4 => omega
            case c5 => first | omega | (simp; omega)
            intro v4 w4 hown4 hgrow4 _
            have hB4 : Below w.heap.size w w4 := (hB.alloc (by omega) _).grown hgrow4 (by simp; omega) (fun k hk => (hown.lt k hk).1)
            replace hown4 := HK.out _ (by rw [HS.out]) v4 w4 hown4
            clear hgrow4 hown hB
            go_wp2_with fail
            go_roundg (T.size - (k + 1) + 1)
            case measure => omega
            case rel => exact ⟨k + 1, _, by omega, rfl, by go_num, by simp [hns], hown4, hB4, HN2⟩
    · have hlt' : decide ((k : Int) < (T.size : Int)) = false := by simp; omega
      have hkT : k = T.size := by omega
      go_wp2_with fail
      go_ret
      refine ⟨_, rfl, ?_, hB⟩
      have e : ns = stL T.data.toList := by rw [HN.out, List.take_of_length_le (by omega)]
      have hl : (stL T.data.toList).length = k := by rw [← e, hns]
      rw [hl, ← e]
      exact hown

set_option maxHeartbeats 4000000 in
theorem sameInts_eq (N : Nat) (u v : Value) (ns : List Int) (w : World) (hu : IntsB N u ns w) (hv : IntsB N v ns w) (hl : ns.length ≤ 1048576) :
    Calls Try.prog 13 #[u, v] w fun e w' => e = .returned (.bool true) ∧ ∃ n, w' = w.drewN n := by
  have hu0 := hu
  have hv0 := hv
  obtain ⟨ua, uc, rfl⟩ := hu.form
  obtain ⟨va, vc, rfl⟩ := hv.form
  have q0 : ((ns.length : Int) != (ns.length : Int)) = false := by simp
  go_enter Try.func13, Try.ntmps13
  go_wp2_with fail
  go_loopg [5] (ns.length + 1) (fun r x wr => ∃ (k n : Nat), k ≤ ns.length ∧ r = ns.length - k + 1 ∧ x = .int .i64 (k : Int) ∧ wr = w.drewN n)
  case atStart => exact ⟨0, 0, Nat.zero_le _, rfl, rfl, rfl⟩
  case round =>
    obtain ⟨k, n, hk, rfl, rfl, rfl⟩ := hrel
    by_cases hlt : k < ns.length
    · have hlt' : (k : Int) < (ns.length : Int) := by omega
      rcases hu with ⟨_, rfl⟩ | ⟨g, cap, hq, hc, hg, hcell⟩
      · simp at hlt
      rcases hv with ⟨_, rfl⟩ | ⟨g', cap', hq', hc', hg', hcell'⟩
      · simp at hlt
      cases hq
      cases hq'
      have ck := hcell k hlt
      have ck' := hcell' k hlt
      clear hcell hcell' hu0 hv0
      generalize ns[k] = s at *
      have qs : (s != s) = false := by simp
      go_wp2_with fail
      go_quiet (fail)
      go_wp2_with fail
      go_roundg (ns.length - (k + 1) + 1)
      case measure => omega
      case rel => exact ⟨k + 1, _, by omega, rfl, by go_num, rfl⟩
    · have hlt' : decide ((k : Int) < (ns.length : Int)) = false := by simp; omega
      go_wp2_with fail
      go_ret
      exact ⟨rfl, n, rfl⟩

end Go.Proofs.Ytanknpmojblmcaa
