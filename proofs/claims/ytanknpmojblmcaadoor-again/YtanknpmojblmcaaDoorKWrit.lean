/-
  A head as a line: written.
-/
import Derived.Test.YtanknpmojblmcaaDoorKWrD
set_option linter.unusedSimpArgs false
set_option linter.unusedVariables false
namespace Go.Proofs.YtanknpmojblmcaaDoor
open Go.RowKit

attribute [local go_sem ↓] Go.wp_at_zero Go.wp_at_succ
set_option maxRecDepth 100000 in
set_option maxHeartbeats 4000000 in
theorem written_any (j : JV) (a : List UInt8) (w : World) (h1 : j.nodes ≤ 12) (h2 : j.time ≤ 12) (h3 : j.lo ≤ 12) (h4 : j.hi ≤ 12) (hn : j.name.length ≤ 10) (ha : a.length ≤ 2000) :
    Calls Tryd.prog 19 #[.agg (jvC j), .string (bs a)] w fun e w' => e = .returned (.string (bs (wrL j a))) ∧ Below w.heap.size w w' := by
  have s1 := bs_size j.name
  have s2 := bs_size (dig2 j.nodes)
  have s3 := bs_size (dig2 j.time)
  have s4 := bs_size (dig2 j.lo)
  have s5 := bs_size (dig2 j.hi)
  have s6 := bs_size a
  have l2 := dig2_len j.nodes
  have l3 := dig2_len j.time
  have l4 := dig2_len j.lo
  have l5 := dig2_len j.hi
  have e1 : ¬ 9223372036854775807 < 3 + j.name.length := by omega
  have e2 : ¬ 9223372036854775807 < 3 + j.name.length + 7 := by omega
  have e3 : ¬ 9223372036854775807 < 3 + j.name.length + 7 + (dig2 j.nodes).length := by omega
  have e4 : ¬ 9223372036854775807 < 3 + j.name.length + 7 + (dig2 j.nodes).length + 6 := by omega
  have e5 : ¬ 9223372036854775807 < 3 + j.name.length + 7 + (dig2 j.nodes).length + 6 + (dig2 j.time).length := by omega
  unfold jvC
  go_enter Tryd.func19, Tryd.ntmps19
  go_wp2_with fail
  have J : (w.alloc (.cells #[.string (bs j.name), .int .i64 (j.nodes : Int), .int .i64 (j.time : Int), .bool j.arr, .int .i64 (j.lo : Int), .int .i64 (j.hi : Int), .string (bs j.after)] 32)).heap[w.heap.size]? = some (.cells #[.string (bs j.name), .int .i64 (j.nodes : Int), .int .i64 (j.time : Int), .bool j.arr, .int .i64 (j.lo : Int), .int .i64 (j.hi : Int), .string (bs j.after)] 32 (0, 0)) := whole_new w _
  have hB := (Below.refl w.heap.size w).alloc (Nat.le_refl _) (.cells #[.string (bs j.name), .int .i64 (j.nodes : Int), .int .i64 (j.time : Int), .bool j.arr, .int .i64 (j.lo : Int), .int .i64 (j.hi : Int), .string (bs j.after)] 32)
  generalize w.alloc (.cells #[.string (bs j.name), .int .i64 (j.nodes : Int), .int .i64 (j.time : Int), .bool j.arr, .int .i64 (j.lo : Int), .int .i64 (j.hi : Int), .string (bs j.after)] 32) = x at *
  generalize hcc : w.heap.size = c at *
  have HCC : Hid (w.heap.size = c) := hcc
  clear hcc
  have c0 := whole_cell J 0; have c1 := whole_cell J 1; have c2 := whole_cell J 2; have c3 := whole_cell J 3; have c4 := whole_cell J 4; have c5 := whole_cell J 5
  simp at c0 c1 c2 c3 c4 c5
  go_region_held3 (fun w' => w'.cell? ⟨c, 0, none⟩ = some (.string (bs j.name)) ∧ w'.cell? ⟨c, 1, none⟩ = some (.int .i64 (j.nodes : Int)) ∧ w'.cell? ⟨c, 2, none⟩ = some (.int .i64 (j.time : Int)))
    (go_keep)
    (first
      | (go_at_call 14; refine (itoa_any j.nodes h1 _).mono ?_; rintro e w' ⟨rfl, rfl⟩)
      | (go_at_call 14; refine (itoa_any j.time h2 _).mono ?_; rintro e w' ⟨rfl, rfl⟩))
  have E0 := wr0_bs j
  have s7 := bs_size (wr0 j)
  have l7 : (wr0 j).length ≤ 40 := by unfold wr0; simp; omega
  rw [E0]
  clear e1 e2 e3 e4 e5 E0
  replace hB := hB.drew
  replace c3 : x.drew.cell? ⟨c, 3, none⟩ = some (.bool j.arr) := c3
  replace c4 : x.drew.cell? ⟨c, 4, none⟩ = some (.int .i64 (j.lo : Int)) := c4
  replace c5 : x.drew.cell? ⟨c, 5, none⟩ = some (.int .i64 (j.hi : Int)) := c5
  clear c0 c1 c2 J
  generalize x.drew = x2 at *
  have f1 : ¬ 9223372036854775807 < (wr0 j).length + 7 := by omega
  have f2 : ¬ 9223372036854775807 < (wr0 j).length + 7 + (dig2 j.lo).length := by omega
  have f3 : ¬ 9223372036854775807 < (wr0 j).length + 7 + (dig2 j.lo).length + 1 := by omega
  have f4 : ¬ 9223372036854775807 < (wr0 j).length + 7 + (dig2 j.lo).length + 1 + (dig2 j.hi).length := by omega
  cases harr : j.arr with
  | true =>
    rw [harr] at c3
    have HA : Hid (j.arr = true) := harr
    clear harr
    go_wp2_with fail
    go_region_held3 (fun w' => w'.cell? ⟨c, 4, none⟩ = some (.int .i64 (j.lo : Int)) ∧ w'.cell? ⟨c, 5, none⟩ = some (.int .i64 (j.hi : Int)))
      (go_keep)
      (first
        | (go_at_call 14; refine (itoa_any j.lo h3 _).mono ?_; rintro e w' ⟨rfl, rfl⟩)
        | (go_at_call 14; refine (itoa_any j.hi h4 _).mono ?_; rintro e w' ⟨rfl, rfl⟩))
    have E1 := wrA_bs j HA.out
    rw [E1]
    have s8 := bs_size (wrA j)
    have l8 : (wrA j).length ≤ 60 := by unfold wrA; rw [if_pos HA.out]; simp; omega
    clear E1 f1 f2 f3 f4
    by_cases ha0 : a = []
    · have ht := empty_bs ha0
      have HL : Hid (wrL j a = wrA j) := by show _ = _; unfold wrL; rw [if_pos ha0]
      clear ha0
      go_wp2_with fail
      go_ret
      rw [HCC.out, HL.out]
      exact ⟨rfl, hB.drew⟩
    · have ht := full_bs ha0
      have HL : Hid ((bs (wrA j) ++ ⟨#[32, 97, 102, 116, 101, 114, 61]⟩ ++ bs a : ByteArray) = bs (wrL j a)) := wrL_bs j ha0
      clear ha0
      go_wp2_with fail
      go_ret
      rw [HCC.out]
      exact ⟨ret_str HL.out, hB.drew⟩
  | false =>
    rw [harr] at c3
    have HA : Hid (j.arr = false) := harr
    clear harr
    have E1 : wr0 j = wrA j := by unfold wrA; rw [if_neg (by rw [HA.out]; decide)]
    rw [E1] at s7 l7 f1 ⊢
    clear f2 f3 f4
    by_cases ha0 : a = []
    · have ht := empty_bs ha0
      have HL : Hid (wrL j a = wrA j) := by show _ = _; unfold wrL; rw [if_pos ha0]
      clear ha0
      go_wp2_with fail
      go_ret
      rw [HCC.out, HL.out]
      exact ⟨rfl, hB⟩
    · have ht := full_bs ha0
      have HL : Hid ((bs (wrA j) ++ ⟨#[32, 97, 102, 116, 101, 114, 61]⟩ ++ bs a : ByteArray) = bs (wrL j a)) := wrL_bs j ha0
      clear ha0
      go_wp2_with fail
      go_ret
      rw [HCC.out]
      exact ⟨ret_str HL.out, hB⟩

end Go.Proofs.YtanknpmojblmcaaDoor
