/-
  Read of the package head, and of the package batch.
-/
import Derived.Test.YtanknpmojblmcaaDoorLimits
set_option linter.unusedSimpArgs false
set_option linter.unusedVariables false
namespace Go.Proofs.YtanknpmojblmcaaDoor
open Go.RowKit

theorem Aside.below_of {b N : Nat} {w w' : World} (h : Aside b w w') (hb : N ≤ b) (hN : N ≤ w.heap.size) : Below N w w' :=
  ⟨h.os, h.tape, h.output, h.size, fun k hk => h.block k (by omega) (by omega)⟩


set_option maxHeartbeats 1000000 in
theorem headRead_any (T : ByteArray) (w : World) (hT : T.size ≤ maxLen) :
    Calls Tryd.prog 11 #[.string T] w fun e w' => ∃ v xs, e = .returned (.tuple #[v, .int .i64 ((readH T.data.toList).2.1 : Int), .int .i64 ((readH T.data.toList).2.2 : Int)]) ∧ w'.ownsRow w.heap.size 51 12 v xs.length (flatH xs) ∧ xs.map Prod.fst = (readH T.data.toList).1 ∧ (∀ x ∈ xs, Sr w.heap.size x.2 x.1.want w') ∧ Below w.heap.size w w' := by
  have hlen : T.data.toList.length = T.size := by simp
  unfold maxLen at hT
  by_cases hbig : 600 < T.size
  · have hb' : (600 : Int) < (T.size : Int) := by omega
    have HR : Hid (readH T.data.toList = ([], (1, 0))) := by show _ = _; unfold readH; rw [if_pos (by omega)]
    clear hlen
    go_enter Tryd.func11, Tryd.ntmps11
    go_wp2_with fail
    go_ret3
    rw [HR.out]
    exact ⟨_, [], rfl, World.ownsRow_nil _ _ _ _, rfl, (fun x hx => by cases hx), Below.refl _ _⟩
  · have hb' : ¬ (600 : Int) < (T.size : Int) := by omega
    have HR : Hid (readH T.data.toList = if (hdsR T.data.toList).2.2 then ([], (2, (hdsR T.data.toList).2.1))
        else if (beyH (hdsR T.data.toList).1).2 then ([], (3, (beyH (hdsR T.data.toList).1).1))
        else if (twiH [] (hdsR T.data.toList).1).2 then ([], (4, (twiH [] (hdsR T.data.toList).1).1))
        else ((hdsR T.data.toList).1, (0, 0))) := by show _ = _; unfold readH; rw [if_neg (by omega)]
    have hsm := hdsR_small T.data.toList
    have hln := hdsR_len T.data.toList
    go_enter Tryd.func11, Tryd.ntmps11
    go_wp2_with fail
    have hr : Rd w.heap.size (.slice none 0 0) T 0 false (w.alloc (.cells #[.string T, .int .i64 0, .bool false, .slice none 0 0] 58)) := whole_new w _
    refine (heads_any w.heap.size T _ hr (by omega)).mono ?_
    rintro e w1 ⟨v, xs, rv1, rfl, hown, hxs, hsr, hr1, ha1⟩
    rw [World.size_alloc] at hown
    have hB1 : Below w.heap.size w w1 := ((Below.refl _ _).alloc (Nat.le_refl _) _).trans (ha1.below_of (Nat.le_refl _) (by simp))
    generalize hdsR T.data.toList = r at *
    obtain ⟨hs, i1, f1⟩ := r
    simp only at hown hr1 hsm hln HR hxs
    have c1 := hr1.c1; have c2 := hr1.c2
    cases f1 with
    | true =>
      have HR2 : Hid (readH T.data.toList = ([], (2, i1))) := HR
      clear HR
      go_wp2_with fail
      go_quiet (fail)
      go_wp2_with fail
      go_ret3
      rw [HR2.out]
      exact ⟨_, [], rfl, World.ownsRow_nil _ _ _ _, rfl, (fun x hx => by cases hx), ⟨hB1.os, hB1.tape, hB1.output, hB1.size, hB1.block⟩⟩
    | false =>
      have HS := Hs.of hown hxs hsr
      go_wp2_with fail
      refine (beyondLimit_any v hs _ HS (by omega) hsm).mono ?_
      rintro e w2 ⟨rfl, hB2⟩
      have HS2 := HS.later hB2
      have hown2 := owns_below hown hB2
      have hsr2 : ∀ x ∈ xs, Sr w.heap.size x.2 x.1.want w2 := fun x hx => owns_below (hsr x hx) hB2
      replace hB2 := hB1.trans (hB2.mono hB1.size)
      generalize beyH hs = q at *
      obtain ⟨a1, g1⟩ := q
      cases g1 with
      | true =>
        have HR2 : Hid (readH T.data.toList = ([], (3, a1))) := HR
        clear HR
        go_wp2_with fail
        go_ret3
        rw [HR2.out]
        exact ⟨_, [], rfl, World.ownsRow_nil _ _ _ _, rfl, (fun x hx => by cases hx), hB2⟩
      | false =>
        go_wp2_with fail
        refine (namedTwice_any v hs _ HS2 (by omega)).mono ?_
        rintro e w3 ⟨rfl, n3, hw3⟩
        have hown3 : w3.ownsRow w.heap.size 51 12 v xs.length (flatH xs) := by rw [hw3]; exact ownsRow_base hown2 (by omega)
        have hsr3 : ∀ x ∈ xs, Sr w.heap.size x.2 x.1.want w3 := by rw [hw3]; exact hsr2
        have hB3 : Below w.heap.size w w3 := by rw [hw3]; exact ⟨hB2.os, hB2.tape, hB2.output, hB2.size, hB2.block⟩
        clear hw3 hown2 hB2 HS2 HS
        generalize twiH [] hs = q at *
        obtain ⟨a2, g2⟩ := q
        cases g2 with
        | true =>
          have HR2 : Hid (readH T.data.toList = ([], (4, a2))) := HR
          clear HR
          go_wp2_with fail
          go_ret3
          rw [HR2.out]
          exact ⟨_, [], rfl, World.ownsRow_nil _ _ _ _, rfl, (fun x hx => by cases hx), hB3⟩
        | false =>
          have HR2 : Hid (readH T.data.toList = (hs, (0, 0))) := HR
          clear HR
          go_wp2_with fail
          go_ret3
          rw [HR2.out]
          exact ⟨_, xs, rfl, hown3, hxs, hsr3, hB3⟩

end Go.Proofs.YtanknpmojblmcaaDoor
