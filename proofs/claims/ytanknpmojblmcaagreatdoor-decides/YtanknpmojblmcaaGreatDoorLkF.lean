/-
  Package link: the jobs of all groups of a name.
-/
import Derived.Test.YtanknpmojblmcaaGreatDoorLkE
set_option linter.unusedSimpArgs false
set_option linter.unusedVariables false
namespace Go.Proofs.YtanknpmojblmcaaGreatDoor
open Go.RowKit

/-- The jobs of all groups of a name. -/
def earlG (gs : List GV) (nm : List UInt8) : List Nat := gs.flatMap fun g => if g.name = nm then (List.range g.count).map (g.first + ·) else []
theorem earlG_take (gs : List GV) (nm : List UInt8) (n : Nat) (h : n < gs.length) :
    earlG (gs.take (n + 1)) nm = earlG (gs.take n) nm ++ (if gs[n].name = nm then (List.range gs[n].count).map (gs[n].first + ·) else []) := by
  unfold earlG
  rw [List.take_succ_eq_append_getElem h, List.flatMap_append]
  simp
theorem earlG_len (gs : List GV) (nm : List UInt8) (h : ∀ g ∈ gs, g.count ≤ 1000) : ∀ n, n ≤ gs.length → (earlG (gs.take n) nm).length ≤ 1000 * n := by
  intro n
  induction n with
  | zero => intro _; simp [earlG]
  | succ n ih =>
    intro hn
    have := ih (by omega)
    rw [earlG_take gs nm n (by omega), List.length_append]
    have h1 := h gs[n] (List.getElem_mem _)
    split <;> simp <;> omega

set_option maxRecDepth 100000 in
set_option maxHeartbeats 1000000 in
theorem lkEarlier (v : Value) (gs : List GV) (nm : List UInt8) (w : World) (hG : Gs v gs w) (hl : gs.length ≤ 1000) (hc : ∀ g ∈ gs, g.count ≤ 1000 ∧ g.first ≤ 1000) :
    Calls Tryz.prog 87 #[v, .string (bs nm)] w fun e w' => ∃ x, e = .returned x ∧ Ns x (earlG gs nm) w' ∧ Below w.heap.size w w' := by
  obtain ⟨a, c, rfl⟩ := hG.form
  obtain ⟨i0, hI0, hz0, hz1, hz2⟩ := info_parts infoIntL
  go_enter Tryz.func87, Tryz.ntmps87
  go_wp2_with fail
  have hl4 : ∀ n, n ≤ gs.length → (earlG (gs.take n) nm).length ≤ 1000 * n := earlG_len gs nm (fun g hg => (hc g hg).1)
  have HL4 : Hid (∀ n, n ≤ gs.length → (earlG (gs.take n) nm).length ≤ 1000 * n) := hl4
  have HC : Hid (∀ g ∈ gs, g.count ≤ 1000 ∧ g.first ≤ 1000) := hc
  clear hl4 hc
  go_loopg [5, 11] (gs.length + 1) (fun r sv x wr => ∃ (n : Nat) (wz : World), wz = wr ∧ n ≤ gs.length ∧ r = gs.length - n + 1 ∧ x = .int .i64 (n : Int) ∧ wz.ownsRow w.heap.size 3 1 sv (earlG (gs.take n) nm).length ((earlG (gs.take n) nm).map iV) ∧ Below w.heap.size w wz)
  case atStart => exact ⟨0, _, rfl, Nat.zero_le _, rfl, rfl, World.ownsRow_nil _ _ _ _, Below.refl _ _⟩
  case round =>
    obtain ⟨n, wz, rfl, hn, rfl, rfl, hown, hB⟩ := hrel
    by_cases hlt : n < gs.length
    · have hlt' : (n : Int) < (gs.length : Int) := by omega
      rcases hG with ⟨_, rfl⟩ | ⟨b, cap, hv, hcap, hb, hcell⟩
      · simp at hlt
      cases hv
      have hcl : ∀ j, j < 5 → wz.cell? ⟨b, n * 5 + j, none⟩ = (gvC gs[n])[j]? := fun j hj => (hB.cell hb).trans (hcell n hlt j hj)
      have l0 := hcl 0 (by omega); have l1 := hcl 1 (by omega); have l2 := hcl 2 (by omega); have l3 := hcl 3 (by omega); have l4 := hcl 4 (by omega)
      simp [gvC] at l0 l1 l2 l3 l4
      have HT : Hid _ := earlG_take gs nm n hlt
      obtain ⟨q1, q2⟩ := HC.out gs[n] (List.getElem_mem hlt)
      have hlen := HL4.out n hn
      clear hcl
      generalize gs[n] = g at *
      have hb2 : ((bs g.name).toList == (bs nm).toList) = (g.name == nm) := by rw [lbs_toList, lbs_toList]
      generalize hE : earlG (gs.take n) nm = E at *
      clear hE
      cases he : (g.name == nm) with
      | true =>
        rw [he] at hb2
        have HE : Hid (g.name = nm) := by show _ = _; simpa using he
        clear he
        go_wp2_with fail
        have Yg : (wz.alloc (.cells #[.string (bs g.name), .bool g.arr, .int .i64 (g.lo : Int), .int .i64 (g.first : Int), .int .i64 (g.count : Int)] 107)).heap[wz.heap.size]? = _ := whole_new wz (.cells (gvC g) 107 (0, 0))
        have hB2 := hB.alloc hB.size (.cells #[.string (bs g.name), .bool g.arr, .int .i64 (g.lo : Int), .int .i64 (g.first : Int), .int .i64 (g.count : Int)] 107)
        have hown2 := hown.alloc (.cells #[.string (bs g.name), .bool g.arr, .int .i64 (g.lo : Int), .int .i64 (g.first : Int), .int .i64 (g.count : Int)] 107)
        generalize wz.alloc (.cells #[.string (bs g.name), .bool g.arr, .int .i64 (g.lo : Int), .int .i64 (g.first : Int), .int .i64 (g.count : Int)] 107) = x2 at *
        clear hown hB l0 l1 l2 l3 l4
        generalize wz.heap.size = hb at *
        go_loopg [5, 8] (g.count + 1) (fun r sv x wr => ∃ (k : Nat) (wy : World), wy = wr ∧ k ≤ g.count ∧ r = g.count - k + 1 ∧ x = .int .i64 (k : Int) ∧ wy.ownsRow w.heap.size 3 1 sv (E.length + k) ((E ++ (List.range k).map (g.first + ·)).map iV) ∧ wy.heap[hb]? = some (.cells (gvC g) 107 (0, 0)) ∧ Below w.heap.size w wy)
        case atStart => exact ⟨0, _, rfl, Nat.zero_le _, rfl, rfl, by simpa using hown2, Yg, hB2⟩
        case round =>
          obtain ⟨k, wy, rfl, hk, rfl, rfl, hown, Yy, hBy⟩ := hrel
          have d3 := whole_cell Yy 3; have d4 := whole_cell Yy 4
          simp [gvC] at d3 d4
          have hlb := whole_lt Yy
          by_cases hlk : k < g.count
          · have hlk' : (k : Int) < (g.count : Int) := by omega
            have hsz := hBy.size
            obtain ⟨jn, hjn⟩ : ∃ jn : Nat, jn = g.first + k := ⟨_, rfl⟩
            have ej : (g.first : Int) + (k : Int) = (jn : Int) := by omega
            have HJ : Hid (jn = g.first + k) := hjn
            clear hjn
            have hne := row_ne hown Yy (by decide)
            go_wp2_with (at_builtin; refine wpList_append_own _ rfl _ _ 36 rfl w.heap.size 3 i0 (.int .i64 0) 1 8 Tryz.underlying36 hI0 hz0 hz1 hz2 rfl (by decide) _ (E.length + k) _ rfl (hown.alloc _) ⟨wy.heap.size, 0, none⟩ 1 1 [.int .i64 (jn : Int)] rfl rfl (World.news_of_block (cs := #[.int .i64 (jn : Int)]) (t := 3) (fr := (0, 0)) (heap_alloc_new wy _)) ?c2 ?c3 ?c4 ?c5 ?_)
            case c2 => first | rfl | (intro u hu; simp at hu; subst hu; rfl)
            case c3 => unfold maxLen; omega
            case c4 => omega
            case c5 => first | omega | (simp; omega)
            intro v4 x4 hown4 hgrow4 _
            have hBx4 : Below w.heap.size w x4 := (hBy.alloc (by omega) _).grown hgrow4 (by simp; omega) (fun q hq => (hown.lt q hq).1)
            have Y4 : x4.heap[hb]? = some (.cells (gvC g) 107 (0, 0)) := (hgrow4.block hb (by simp; omega) (Ne.symm hne)).trans (whole_alloc Yy _)
            replace hown4 : x4.ownsRow w.heap.size 3 1 v4 (E.length + (k + 1)) ((E ++ (List.range (k + 1)).map (g.first + ·)).map iV) := by
              rw [List.range_succ, List.map_append]; simpa [iV, HJ.out, Nat.add_assoc] using hown4
            clear hgrow4 hown hBy Yy
            go_wp2_with fail
            go_roundg (g.count - (k + 1) + 1)
            case measure => omega
            case rel => exact ⟨k + 1, _, rfl, by omega, rfl, by go_num, hown4, Y4, hBx4⟩
          · have hlk' : decide ((k : Int) < (g.count : Int)) = false := by simp; omega
            have HK : Hid (k = g.count) := (show k = g.count by omega)
            go_wp2_with fail
            go_roundg (gs.length - (n + 1) + 1)
            case measure => omega
            case rel =>
              refine ⟨n + 1, _, rfl, by omega, rfl, by go_num, ?_, hBy⟩
              rw [HT.out, if_pos HE.out]
              rw [HK.out] at hown
              simpa using hown
      | false =>
        rw [he] at hb2
        have HE : Hid (¬ g.name = nm) := by show ¬ _; simpa using he
        clear he
        go_wp2_with fail
        go_roundg (gs.length - (n + 1) + 1)
        case measure => omega
        case rel =>
          refine ⟨n + 1, _, rfl, by omega, rfl, by go_num, ?_, hB.alloc hB.size _⟩
          rw [HT.out, if_neg HE.out]
          simpa using hown.alloc _
    · have hlt' : decide ((n : Int) < (gs.length : Int)) = false := by simp; omega
      have HN : Hid (n = gs.length) := (show n = gs.length by omega)
      go_wp2_with fail
      go_ret
      refine ⟨_, rfl, ?_, hB⟩
      have := Ns.of hown
      rw [HN.out, List.take_length] at this
      exact this

end Go.Proofs.YtanknpmojblmcaaGreatDoor
