/-
  The document's operations and sound.
-/
import Derived.Test.YtanknpmojblmcaaXRef
set_option linter.unusedSimpArgs false
set_option linter.unusedVariables false
namespace Go.Proofs.Ytanknpmojblmcaa
open Go.RowKit

/-- The cells of a list of operations. -/
def insC (x : Nat × Nat) : List Value := [.int .i64 (x.1 : Int), .int .i64 (x.2 : Int)]
def flatI (l : List (Nat × Nat)) : List Value := (l.map insC).flatten
theorem flatI_snoc (l : List (Nat × Nat)) (x : Nat × Nat) : flatI (l ++ [x]) = flatI l ++ insC x := by simp [flatI]
theorem flatI_get (l : List (Nat × Nat)) : ∀ (k : Nat) (hk : k < l.length), (flatI l)[k * 2]? = some (.int .i64 (l[k].1 : Int)) ∧ (flatI l)[k * 2 + 1]? = some (.int .i64 (l[k].2 : Int)) := by
  induction l with
  | nil => intro k hk; simp at hk
  | cons x r ih =>
    intro k hk
    have e : flatI (x :: r) = .int .i64 (x.1 : Int) :: .int .i64 (x.2 : Int) :: flatI r := rfl
    rw [e]
    cases k with
    | zero => exact ⟨rfl, rfl⟩
    | succ k =>
      have := ih k (by simpa using hk)
      rw [show (k + 1) * 2 = k * 2 + 1 + 1 from by omega]
      simpa using this
/-- A slice of operations that can be read, below N. -/
def Insl (N : Nat) (v : Value) (l : List (Nat × Nat)) (w : World) : Prop :=
  (v = .slice none 0 0 ∧ l = []) ∨ ∃ g cap, v = .slice (some ⟨g, 0, none⟩) l.length cap ∧ l.length ≤ cap ∧ g < N ∧ ∀ k, (hk : k < l.length) → w.cell? ⟨g, k * 2, none⟩ = some (.int .i64 (l[k].1 : Int)) ∧ w.cell? ⟨g, k * 2 + 1, none⟩ = some (.int .i64 (l[k].2 : Int))
theorem Insl.kept {N : Nat} {u : Value} {l : List (Nat × Nat)} {w w' : World} (h : Insl N u l w) (b : Below N w w') : Insl N u l w' := by
  rcases h with h | ⟨g, cap, h1, h2, h3, h4⟩
  · exact Or.inl h
  · exact Or.inr ⟨g, cap, h1, h2, h3, fun k hk => ⟨(b.cell h3).trans (h4 k hk).1, (b.cell h3).trans (h4 k hk).2⟩⟩
theorem Insl.mono {N M : Nat} {u : Value} {l : List (Nat × Nat)} {w : World} (h : Insl N u l w) (b : N ≤ M) : Insl M u l w := by
  rcases h with h | ⟨g, cap, h1, h2, h3, h4⟩
  · exact Or.inl h
  · exact Or.inr ⟨g, cap, h1, h2, by omega, h4⟩
theorem Insl.form {N : Nat} {u : Value} {l : List (Nat × Nat)} {w : World} (h : Insl N u l w) : ∃ a c, u = .slice a l.length c := by
  rcases h with ⟨rfl, rfl⟩ | ⟨g, cap, rfl, _⟩
  · exact ⟨_, _, rfl⟩
  · exact ⟨_, _, rfl⟩
theorem Insl.of {w : World} {base : Nat} {v : Value} {l : List (Nat × Nat)} (h : w.ownsRow base 61 2 v l.length (flatI l)) : Insl w.heap.size v l w := by
  rcases h.2 with ⟨hv, hn⟩ | ⟨g, cap, cur, hv, h1, h2, h3, h4, h5, h6⟩
  · exact Or.inl ⟨hv, List.eq_nil_of_length_eq_zero hn⟩
  · right
    subst hv
    refine ⟨g, cap, rfl, h3, whole_lt h2, ?_⟩
    intro k hk
    rw [h.cellAt (k * 2) (by omega), h.cellAt (k * 2 + 1) (by omega)]
    exact flatI_get l k hk

theorem infoIns : (Try.prog.info? 61).map (fun i => (i.zero, i.size, i.bytes)) = some (some (.agg #[.int .i64 0, .int .i64 0]), 2, 16) := by kernel_rfl

theorem opsR_bad (op : UInt8) (R : List UInt8) (h : 6 < op.toNat) : opsR (op :: R) = none := by rw [opsR.eq_def]; simp [h]
theorem opsR_plain (op : UInt8) (R : List UInt8) (h : ¬ 6 < op.toNat) (ha : asksB op.toNat = false) : opsR (op :: R) = (opsR R).map ((op.toNat, 0) :: ·) := by
  rw [opsR.eq_def]; simp [h, ha]
theorem opsR_lack (op : UInt8) (h : ¬ 6 < op.toNat) (ha : asksB op.toNat = true) : opsR [op] = none := by
  rw [opsR.eq_def]; simp [h, ha]
theorem opsR_high (op j : UInt8) (R : List UInt8) (h : ¬ 6 < op.toNat) (ha : asksB op.toNat = true) (hj : 24 ≤ j.toNat) : opsR (op :: j :: R) = none := by
  rw [opsR.eq_def]; simp [h, ha, hj]
theorem opsR_ask (op j : UInt8) (R : List UInt8) (h : ¬ 6 < op.toNat) (ha : asksB op.toNat = true) (hj : ¬ 24 ≤ j.toNat) : opsR (op :: j :: R) = (opsR R).map ((op.toNat, j.toNat) :: ·) := by
  rw [opsR.eq_def]; simp [h, ha, hj]

theorem map_snoc (o : Option (List (Nat × Nat))) (l : List (Nat × Nat)) (x : Nat × Nat) : (o.map (x :: ·)).map (l ++ ·) = o.map ((l ++ [x]) ++ ·) := by
  cases o <;> simp

set_option maxRecDepth 100000 in
set_option maxHeartbeats 4000000 in
theorem operations_any (T : ByteArray) (w : World) (hT : T.size ≤ 8000) :
    Calls Try.prog 20 #[.string T] w fun e w' => Below w.heap.size w w' ∧
      ((opsR T.data.toList = none ∧ e = .returned (.tuple #[.slice none 0 0, .bool false])) ∨ ∃ v l, opsR T.data.toList = some l ∧ l.length ≤ 8000 ∧ e = .returned (.tuple #[v, .bool true]) ∧ w'.ownsRow w.heap.size 61 2 v l.length (flatI l)) := by
  obtain ⟨i0, hi, hz0, hz1, hz2⟩ := info_parts infoIns
  have hlen : T.data.toList.length = T.size := by simp
  go_enter Try.func20, Try.ntmps20
  go_wp2_with fail
  go_loopg [4, 5] (T.size + 1) (fun r v x wr => ∃ (k : Nat) (l : List (Nat × Nat)), k ≤ T.size ∧ r = T.size - k + 1 ∧ x = .int .i64 (k : Int) ∧ l.length ≤ k ∧ wr.ownsRow w.heap.size 61 2 v l.length (flatI l) ∧ Below w.heap.size w wr ∧ Hid (opsR T.data.toList = (opsR (T.data.toList.drop k)).map (l ++ ·)))
  case atStart => exact ⟨0, [], Nat.zero_le _, rfl, rfl, by simp, World.ownsRow_nil _ _ _ _, Below.refl _ w, by show opsR T.data.toList = Option.map ([] ++ ·) (opsR (T.data.toList.drop 0)); simp⟩
  case round =>
    obtain ⟨k, l, hk, rfl, rfl, hl, hown, hB, HR⟩ := hrel
    by_cases hlt : k < T.size
    · have hlt' : (k : Int) < (T.size : Int) := by omega
      have HD : Hid (T.data.toList.drop k = T[k] :: T.data.toList.drop (k + 1)) := drop_T T k hlt
      have hop := T[k].toNat_lt
      by_cases h6 : 6 < T[k].toNat
      · have h6' : (6 : Int) < (T[k].toNat : Int) := by omega
        have HN : Hid (opsR T.data.toList = none) := by
          show _ = _
          rw [HR.out, HD.out, opsR_bad _ _ h6]; rfl
        go_wp2_with fail
        go_ret2
        exact ⟨hB, Or.inl ⟨HN.out, rfl⟩⟩
      · have h6' : decide ((6 : Int) < (T[k].toNat : Int)) = false := by simp; omega
        have hsz := hB.size
        cases hab : asksB T[k].toNat with
        | false =>
          have HN : Hid (opsR T.data.toList = (opsR (T.data.toList.drop (k + 1))).map ((l ++ [(T[k].toNat, 0)]) ++ ·)) := by
            show _ = _
            rw [HR.out, HD.out, opsR_plain _ _ h6 hab, map_snoc]
          have ho : decide ((1 : Int) ≤ (T[k].toNat : Int)) = false ∨ ((1 : Int) ≤ (T[k].toNat : Int) ∧ decide ((T[k].toNat : Int) ≤ 4) = false) := by
            simp [asksB] at hab
            by_cases h0 : 1 ≤ T[k].toNat
            · right; exact ⟨by omega, by simp; have := hab h0; omega⟩
            · left; simp; omega
          clear hab h6 HD
          rcases ho with ho | ⟨ho, ho2⟩
          all_goals
            go_wp2_with (at_builtin; refine wpList_append_own _ rfl _ _ 56 rfl w.heap.size 61 i0 (.agg #[.int .i64 0, .int .i64 0]) 2 16 Try.underlying56 hi hz0 hz1 hz2 rfl (by decide) _ _ _ rfl (hown.alloc _) ⟨wr.heap.size, 0, none⟩ 1 1 [.int .i64 (T[k].toNat : Int), .int .i64 0] rfl rfl (World.news_of_block (cs := #[.int .i64 (T[k].toNat : Int), .int .i64 0]) (t := 61) (fr := (0, 0)) (heap_alloc_new wr _)) ?c2 ?c3 ?c4 ?c5 ?_)
            case c2 => first | exact ⟨rfl, rfl⟩ | (intro u hu; simp [insC] at hu; rcases hu with rfl | rfl <;> rfl)
            case c3 => unfold maxLen; omega
            case c4 => omega
            case c5 => first | omega | (simp; omega)
            intro v4 w4 hown4 hgrow4 _
            have hB4 : Below w.heap.size w w4 := (hB.alloc (by omega) _).grown hgrow4 (by simp; omega) (fun k hk => (hown.lt k hk).1)
            replace hown4 : w4.ownsRow w.heap.size 61 2 v4 (l.length + 1) (flatI (l ++ [(T[k].toNat, 0)])) := by rw [flatI_snoc]; exact hown4
            clear hgrow4 hown hB
            go_wp2_with fail
            go_roundg (T.size - (k + 1) + 1)
            case measure => omega
            case rel => exact ⟨k + 1, _, by omega, rfl, by go_num, by simp; omega, by simpa using hown4, hB4, HN⟩
        | true =>
          have ho : 1 ≤ T[k].toNat ∧ T[k].toNat ≤ 4 := by simpa [asksB] using hab
          have ho1 : (1 : Int) ≤ (T[k].toNat : Int) := by omega
          have ho2 : (T[k].toNat : Int) ≤ 4 := by omega
          by_cases hl2 : k + 1 < T.size
          · have hl2' : ((k : Int) + 1) < (T.size : Int) := by omega
            have hl2'' : decide ((T.size : Int) ≤ (k : Int) + 1) = false := by simp; omega
            have HD2 : Hid (T.data.toList.drop (k + 1) = T[k + 1] :: T.data.toList.drop (k + 2)) := drop_T T (k + 1) hl2
            have hj := T[k + 1].toNat_lt
            by_cases h24 : 24 ≤ T[k + 1].toNat
            · have h24' : (24 : Int) ≤ (T[k + 1].toNat : Int) := by omega
              have HN : Hid (opsR T.data.toList = none) := by
                show _ = _
                rw [HR.out, HD.out, HD2.out, opsR_high _ _ _ h6 hab h24]; rfl
              clear hab
              go_wp2_with fail
              go_ret2
              exact ⟨hB, Or.inl ⟨HN.out, rfl⟩⟩
            · have h24' : decide ((24 : Int) ≤ (T[k + 1].toNat : Int)) = false := by simp; omega
              have HN : Hid (opsR T.data.toList = (opsR (T.data.toList.drop (k + 2))).map ((l ++ [(T[k].toNat, T[k + 1].toNat)]) ++ ·)) := by
                show _ = _
                rw [HR.out, HD.out, HD2.out, opsR_ask _ _ _ h6 hab h24, map_snoc]
              clear hab h6 h24 HD HD2
              go_wp2_with (at_builtin; refine wpList_append_own _ rfl _ _ 56 rfl w.heap.size 61 i0 (.agg #[.int .i64 0, .int .i64 0]) 2 16 Try.underlying56 hi hz0 hz1 hz2 rfl (by decide) _ _ _ rfl (hown.alloc _) ⟨wr.heap.size, 0, none⟩ 1 1 [.int .i64 (T[k].toNat : Int), .int .i64 (T[k + 1].toNat : Int)] rfl rfl (World.news_of_block (cs := #[.int .i64 (T[k].toNat : Int), .int .i64 (T[k + 1].toNat : Int)]) (t := 61) (fr := (0, 0)) (heap_alloc_new wr _)) ?c2 ?c3 ?c4 ?c5 ?_)
              case c2 => first | exact ⟨rfl, rfl⟩ | (intro u hu; simp [insC] at hu; rcases hu with rfl | rfl <;> rfl)
              case c3 => unfold maxLen; omega
              case c4 => omega
              case c5 => first | omega | (simp; omega)
              intro v4 w4 hown4 hgrow4 _
              have hB4 : Below w.heap.size w w4 := (hB.alloc (by omega) _).grown hgrow4 (by simp; omega) (fun k hk => (hown.lt k hk).1)
              replace hown4 : w4.ownsRow w.heap.size 61 2 v4 (l.length + 1) (flatI (l ++ [(T[k].toNat, T[k + 1].toNat)])) := by rw [flatI_snoc]; exact hown4
              clear hgrow4 hown hB
              go_wp2_with fail
              go_roundg (T.size - (k + 2) + 1)
              case measure => omega
              case rel => exact ⟨k + 2, _, by omega, rfl, by go_num, by simp; omega, by simpa using hown4, hB4, HN⟩
          · have hl2' : (T.size : Int) ≤ (k : Int) + 1 := by omega
            have HN : Hid (opsR T.data.toList = none) := by
              show _ = _
              rw [HR.out, HD.out, List.drop_eq_nil_of_le (by omega), opsR_lack _ h6 hab]; rfl
            clear hab
            go_wp2_with fail
            go_ret2
            exact ⟨hB, Or.inl ⟨HN.out, rfl⟩⟩
    · have hlt' : decide ((k : Int) < (T.size : Int)) = false := by simp; omega
      have HN : Hid (opsR T.data.toList = some l) := by
        show _ = _
        rw [HR.out, List.drop_eq_nil_of_le (by omega)]
        simp [opsR]
      go_wp2_with fail
      go_ret2
      exact ⟨hB, Or.inr ⟨_, l, HN.out, by omega, rfl, hown⟩⟩

set_option maxHeartbeats 4000000 in
theorem sound_any (N : Nat) (v : Value) (l : List (Nat × Nat)) (w : World) (hv : Insl N v l w) (hl : l.length ≤ 8000) :
    Calls Try.prog 21 #[v] w fun e w' => e = .returned (.bool (finR l 0 == some 1)) ∧ w' = w := by
  obtain ⟨va, vc, rfl⟩ := hv.form
  go_enter Try.func21, Try.ntmps21
  go_wp2_with fail
  go_loopg [3, 4] (l.length + 1) (fun r n x wr => ∃ (k m : Nat), k ≤ l.length ∧ r = l.length - k + 1 ∧ x = .int .i64 (k : Int) ∧ n = .int .i64 (m : Int) ∧ m ≤ 24 ∧ wr = w ∧ Hid (finR (l.drop k) m = finR l 0))
  case atStart => exact ⟨0, 0, Nat.zero_le _, rfl, rfl, rfl, by omega, rfl, rfl⟩
  case round =>
    obtain ⟨k, m, hk, rfl, rfl, rfl, hm, rfl, HA⟩ := hrel
    by_cases hlt : k < l.length
    · have hlt' : (k : Int) < (l.length : Int) := by omega
      rcases hv with ⟨_, rfl⟩ | ⟨g, cap, hq, hc, hg, hcell⟩
      · simp at hlt
      cases hq
      have ck := (hcell k hlt).1
      have HD : Hid (l.drop k = l[k] :: l.drop (k + 1)) := List.drop_eq_getElem_cons hlt
      clear hcell
      generalize l[k] = x at *
      obtain ⟨op, j⟩ := x
      dsimp only at ck
      by_cases hb : op = 5 ∨ op = 6
      · have hs : stepH op m = m - 1 := by unfold stepH; rw [if_pos hb]
        by_cases h1 : m < 2
        · have h1' : ((m : Int) - 1) < 1 := by omega
          have HE : Hid (finR l 0 = none) := by
            show _ = _
            rw [← HA.out, HD.out]
            unfold finR; rw [if_pos (by dsimp only; omega)]
          rcases hb with rfl | rfl
          all_goals
            go_wp2_with fail
            go_ret
            rw [HE.out]
            exact ⟨rfl, rfl⟩
        · have h1' : decide (((m : Int) - 1) < 1) = false := by simp; omega
          have h2' : decide ((24 : Int) < ((m : Int) - 1)) = false := by simp; omega
          have HE : Hid (finR (l.drop (k + 1)) (m - 1) = finR l 0) := by
            show _ = _
            rw [← HA.out, HD.out, ← hs]
            conv => rhs; unfold finR
            rw [if_neg (by dsimp only; omega)]
          have em : (m : Int) - 1 = ((m - 1 : Nat) : Int) := by omega
          rcases hb with rfl | rfl
          all_goals
            go_wp2_with fail
            go_roundg (l.length - (k + 1) + 1)
            case measure => omega
            case rel => exact ⟨k + 1, m - 1, by omega, rfl, by go_num, by first | rfl | (rw [em]), by omega, rfl, HE⟩
      · have hs : stepH op m = m + 1 := by unfold stepH; rw [if_neg hb]
        have hb5 : ((op : Int) == 5) = false := by rw [beq_eq_false_iff_ne]; omega
        have hb6 : ((op : Int) == 6) = false := by rw [beq_eq_false_iff_ne]; omega
        have h0' : decide (((m : Int) + 1) < 1) = false := by simp; omega
        by_cases h1 : 24 ≤ m
        · have h1' : (24 : Int) < (m : Int) + 1 := by omega
          have HE : Hid (finR l 0 = none) := by
            show _ = _
            rw [← HA.out, HD.out]
            unfold finR; rw [if_pos (by dsimp only; omega)]
          go_wp2_with fail
          go_ret
          rw [HE.out]
          exact ⟨rfl, rfl⟩
        · have h1' : decide ((24 : Int) < (m : Int) + 1) = false := by simp; omega
          have HE : Hid (finR (l.drop (k + 1)) (m + 1) = finR l 0) := by
            show _ = _
            rw [← HA.out, HD.out, ← hs]
            conv => rhs; unfold finR
            rw [if_neg (by dsimp only; omega)]
          go_wp2_with fail
          go_roundg (l.length - (k + 1) + 1)
          case measure => omega
          case rel => exact ⟨k + 1, m + 1, by omega, rfl, by go_num, by go_num, by omega, rfl, HE⟩
    · have hlt' : decide ((k : Int) < (l.length : Int)) = false := by simp; omega
      have HE : Hid (finR l 0 = some m) := by
        show _ = _
        rw [← HA.out, List.drop_eq_nil_of_le (by omega)]; rfl
      go_wp2_with fail
      go_ret
      rw [HE.out]
      refine ⟨?_, rfl⟩
      by_cases h : m = 1
      · subst h; rfl
      · have e1 : ((m : Int) == 1) = false := beqF (by omega)
        have e2 : ((some m : Option Nat) == some 1) = false := by simp [h]
        rw [e2, ← e1]; rfl

end Go.Proofs.Ytanknpmojblmcaa
