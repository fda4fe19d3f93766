/-
  Where Cut cuts: the mathematics of the two ways.
-/
import Derived.Test.YtanknpmojblmcaaGreatDoorMathV
import Derived.Test.YtanknpmojblmcaaGreatDoorKCutA
set_option linter.unusedSimpArgs false
set_option linter.unusedVariables false
namespace Go.Proofs.YtanknpmojblmcaaGreatDoor

theorem cutw_head {S : List UInt8} (hL : Lined S) {k : Nat} (hk : k ≤ S.length) (h35 : byt S (lineA S k) = 35) : lineA S k + 1 < S.length ∧ byt S (lineA S k + 1) = 74 := by
  have hs := lineA_start S k
  have hle := lineA_le S k
  obtain ⟨q1, q2⟩ := hL.any _ (by omega) hs
  have q3 := q2 h35
  refine ⟨?_, q3⟩
  by_cases hh : lineA S k + 1 < S.length
  · exact hh
  · rw [byt_out (by omega)] at q3
    omega

theorem cutw_one {S : List UInt8} (hL : Lined S) (hr : (readH S).2 = (0, 0)) (hl : S.length ≤ 390) {k : Nat} (hk : k ≤ S.length) (h35 : byt S (lineA S k) = 35) : CutOK S (lineA S k) (if k - lineA S k < 2 then lineA S k + 2 else k) := by
  have hs := lineA_start S k
  have hle := lineA_le S k
  obtain ⟨g1, g2⟩ := cutw_head hL hk h35
  have hno := lineA_no S k
  refine cut_ok hr hl hs h35 g2 ?_ ?_ ?_
  · split <;> omega
  · split <;> omega
  · intro j j1 j2
    by_cases q : j = lineA S k
    · rw [q, h35]; decide
    · by_cases q2 : j = lineA S k + 1
      · rw [q2, g2]; decide
      · refine hno j j1 ?_
        split at j2 <;> omega

theorem cutw_last {S : List UInt8} (hL : Lined S) : byt S (lineA S S.length) = 35 :=
  hL.last _ (lineA_le S _) (lineA_start S _) (fun k h1 h2 => lineA_no S _ k h1 h2)

theorem cutw_lt {S : List UInt8} (hL : Lined S) {k : Nat} (hk : k ≤ S.length) : lineA S k < S.length :=
  (hL.any _ (by have := lineA_le S k; omega) (lineA_start S k)).1

theorem cutw_far {S : List UInt8} (hL : Lined S) (hr : (readH S).2 = (0, 0)) (hl : S.length ≤ 390) : CutOK S (lineA S S.length) S.length := by
  have h := cutw_one hL hr hl (Nat.le_refl _) (cutw_last hL)
  obtain ⟨g1, g2⟩ := cutw_head hL (Nat.le_refl _) (cutw_last hL)
  rw [if_neg (by omega)] at h
  exact h

theorem cutw_text (S : List UInt8) (p : Nat) (hp : p ≤ S.length) : (bs S).extract 0 p ++ (⟨#[33]⟩ : ByteArray) ++ (bs S).extract p S.length = bs (S.take p ++ 33 :: S.drop p) := by
  have e : (⟨#[33]⟩ : ByteArray) = bs [33] := rfl
  rw [bs_extract, bs_extract, bs_list, e, bs_append, bs_append]
  congr 1
  unfold cut
  simp
  exact List.take_of_length_le (by simp)
theorem cutw_front (S : List UInt8) (p : Nat) : (bs S).extract 0 p = bs (S.take p) := by
  rw [bs_extract, bs_list]
  unfold cut
  simp
end Go.Proofs.YtanknpmojblmcaaGreatDoor
