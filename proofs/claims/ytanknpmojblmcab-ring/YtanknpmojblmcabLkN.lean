/-
  Package link: Ring.
-/
import Derived.Test.YtanknpmojblmcabLkM
set_option linter.unusedSimpArgs false
set_option linter.unusedVariables false
namespace Go.Proofs.Ytanknpmojblmcab
open Go.RowKit

def waitsL (own : List GV) (hs : List HV) : List (List Nat) := hs.map fun h => waitS own h.want
theorem waitS_lt (own : List GV) : ∀ (S : List Stp) (j : Nat), j ∈ waitS own S → j < own.length := by
  intro S
  induction S with
  | nil => intro j h; simp [waitS] at h
  | cons x r ih =>
    intro j h
    simp only [waitS] at h
    split at h
    · split at h
      · rename_i i hi
        rcases List.mem_cons.mp h with e | e
        · rw [e]; exact (latN_lt hi).1
        · exact ih j e
      · exact ih j h
    · exact ih j h

theorem infoIntsL : (Try.prog.info? 28).map (fun i => (i.zero, i.size, i.bytes)) = some (some (.slice none 0 0), 1, 24) := by kernel_rfl

set_option maxRecDepth 100000 in
set_option maxHeartbeats 2000000 in
theorem lkRing (u t : Value) (own : List GV) (hs : List HV) (w : World) (hO : Gs u own w) (hH : HdL t hs w) (hm : own.length = hs.length) (hn : hs.length ≤ 100) (hok : ∀ x ∈ hs, HOK x) :
    Calls Try.prog 20 #[u, t] w fun e w' => ∃ x, e = .returned x ∧ w'.ownsRow w.heap.size 3 1 x (ringF (waitsL own hs)).length ((ringF (waitsL own hs)).map iV) ∧ Below w.heap.size w w' := by
  obtain ⟨i0, hI0, hz0, hz1, hz2⟩ := info_parts infoIntsL
  obtain ⟨a', c', rfl⟩ := hO.form
  obtain ⟨ta, tc, rfl⟩ := hH.form
  have HH : Hid (HdL (.slice ta hs.length tc) hs w) := hH
  have HO : Hid (Gs (.slice a' own.length c') own w) := hO
  have HOKs : Hid (∀ x ∈ hs, HOK x) := hok
  have HM : Hid (own.length = hs.length) := hm
  have hml : own.length ≤ 100 := by omega
  clear hH hok hO hm
  go_enter Try.func20, Try.ntmps20
  go_wp2_with fail
  go_loopg [5, 11] (hs.length + 1) (fun r lv x wr => ∃ (n : Nat) (vs : List Value) (wz : World), wz = wr ∧ n ≤ hs.length ∧ r = hs.length - n + 1 ∧ x = .int .i64 (n : Int) ∧ vs.length = n ∧ Hid (wz.ownsRow w.heap.size 28 1 lv n vs) ∧ Hid (∀ k, k < n → wz.ownsRow w.heap.size 3 1 (vs.getD k (.slice none 0 0)) (waitS own (hs.getD k hv0).want).length ((waitS own (hs.getD k hv0).want).map iV)) ∧ Hid (∀ v ∈ vs, v.oneCell' = true) ∧ Hid (Below w.heap.size w wz))
  case atStart => exact ⟨0, [], _, rfl, Nat.zero_le _, rfl, rfl, rfl, World.ownsRow_nil _ _ _ _, (fun k hk => by omega), (fun v hv => by simp at hv), Below.refl _ _⟩
  case round =>
    obtain ⟨n, vs, wz, rfl, hnn, rfl, rfl, hvl, HR, HN, HV, HB⟩ := hrel
    obtain ⟨la, lc, rfl⟩ := row_formL HR.out
    by_cases hlt : n < hs.length
    · have hlt' : (n : Int) < (hs.length : Int) := by omega
      rcases HH.out with ⟨_, he⟩ | ⟨b, cap, qs, hv, hcap, hb, hcell⟩
      · rw [he] at hlt; simp at hlt
      cases hv
      have hcl : ∀ j, j < 12 → wz.cell? ⟨b, n * 12 + j, none⟩ = (hvC hs[n] (qs n))[j]? := fun j hj => (HB.out.cell hb).trans ((hcell n hlt).2 j hj)
      have l0 := hcl 0 (by omega); have l1 := hcl 1 (by omega); have l2 := hcl 2 (by omega); have l3 := hcl 3 (by omega); have l4 := hcl 4 (by omega); have l5 := hcl 5 (by omega)
      have l6 := hcl 6 (by omega); have l7 := hcl 7 (by omega); have l8 := hcl 8 (by omega); have l9 := hcl 9 (by omega); have l10 := hcl 10 (by omega); have l11 := hcl 11 (by omega)
      obtain ⟨qa, qc, hq⟩ := (hcell n hlt).1.form
      have HSs : Hid (Ss (qs n) hs[n].want w) := Ss.of (hcell n hlt).1
      generalize qs n = q at *
      subst hq
      simp [hvC] at l0 l1 l2 l3 l4 l5 l6 l7 l8 l9 l10 l11
      have hg1 : HOK hs[n] := HOKs.out _ (List.getElem_mem hlt)
      have HGD : Hid (hs.getD n hv0 = hs[n]) := by show _ = _; simp [hlt]
      clear hcl hcell
      generalize hs[n] = h at *
      have HX : Hid (Below wz.heap.size wz (wz.alloc (.cells #[.string (bs h.name), .int .i64 (h.nodes : Int), .int .i64 (h.time : Int), .bool h.arr, .int .i64 (h.lo : Int), .int .i64 (h.hi : Int), .string (bs h.after), .slice qa h.want.length qc, .int .i64 (h.nameAt : Int), .int .i64 (h.nodesAt : Int), .int .i64 (h.timeAt : Int), .int .i64 (h.arrayAt : Int)] 78))) := (Below.refl _ wz).alloc (Nat.le_refl _) _
      go_wp2_with fail
      generalize wz.alloc (.cells #[.string (bs h.name), .int .i64 (h.nodes : Int), .int .i64 (h.time : Int), .bool h.arr, .int .i64 (h.lo : Int), .int .i64 (h.hi : Int), .string (bs h.after), .slice qa h.want.length qc, .int .i64 (h.nameAt : Int), .int .i64 (h.nodesAt : Int), .int .i64 (h.timeAt : Int), .int .i64 (h.arrayAt : Int)] 78) = X at *
      have HBX : Hid (Below w.heap.size w X) := HB.out.trans (HX.out.mono HB.out.size)
      clear l0 l1 l2 l3 l4 l5 l6 l7 l8 l9 l10 l11
      refine (lkWaitsFor (.slice a' own.length c') own h (.slice qa h.want.length qc) X (HO.out.below HBX.out) (HSs.out.below HBX.out) (by omega) hg1).mono ?_
      rintro e x1 ⟨nv, rfl, hown1, hX1⟩
      have HB1 : Hid (Below w.heap.size w x1) := HBX.out.trans (hX1.mono HBX.out.size)
      have hZ1 : Below wz.heap.size wz x1 := HX.out.trans (hX1.mono HX.out.size)
      have hR1 := owns_below HR.out hZ1
      have HN1 : Hid (∀ k, k < n → x1.ownsRow w.heap.size 3 1 (vs.getD k (.slice none 0 0)) (waitS own (hs.getD k hv0).want).length ((waitS own (hs.getD k hv0).want).map iV)) := fun k hk => owns_below (HN.out k hk) hZ1
      have HNn : Hid (x1.ownsRow w.heap.size 3 1 nv (waitS own h.want).length ((waitS own h.want).map iV)) := ownsRow_base hown1 HBX.out.size
      obtain ⟨na, nc, rfl⟩ := row_formL hown1
      obtain ⟨W, hW⟩ : ∃ W, waitS own h.want = W := ⟨_, rfl⟩
      have HW : Hid (waitS own h.want = W) := hW
      rw [hW] at HNn ⊢
      clear hW
      have hsz1 := HB1.out.size
      clear hown1 hX1 hZ1 HR HN HB HBX HX
      go_wp2_with (at_builtin; refine wpList_append_lies _ rfl _ _ 89 rfl w.heap.size 28 i0 (.slice none 0 0) 1 24 Try.underlying89 hI0 hz0 hz1 hz2 rfl (by decide) _ n _ rfl (hR1.alloc _) ⟨x1.heap.size, 0, none⟩ 1 1 [.slice na W.length nc] rfl rfl (World.news_of_block (cs := #[.slice na W.length nc]) (t := 28) (fr := (0, 0)) (heap_alloc_new x1 _)) ?c2 (by decide) ?c3 ?c4 ?c5 _ rfl ?_)
      case c2 => first | rfl | (intro u hu; simp at hu; subst hu; rfl)
      case c3 => unfold maxLen; omega
      case c4 => omega
      case c5 => first | omega | (simp; omega)
      intro g4 cap4 x4 hown4 hgrow4 hat4 hlt4
      have HB4 : Hid (Below w.heap.size w x4) := (HB1.out.alloc hsz1 _).grown hgrow4 (by simp; omega) (fun q hq => (hR1.lt q hq).1)
      have HN4 : Hid (∀ k, k < n + 1 → x4.ownsRow w.heap.size 3 1 ((vs ++ [Value.slice na W.length nc]).getD k (.slice none 0 0)) (waitS own (hs.getD k hv0).want).length ((waitS own (hs.getD k hv0).want).map iV)) := by
        have move : ∀ (v : Value) (js : List Nat), x1.ownsRow w.heap.size 3 1 v js.length (js.map iV) → x4.ownsRow w.heap.size 3 1 v js.length (js.map iV) := by
          intro v js hv
          exact owns_same (hv.alloc (Obj.cells #[Value.slice na W.length nc] 28)) (fun q hq => hgrow4.block q (by have := (hv.lt q hq).2; simp; omega) (fun e => rows_ne hR1 hv (by decide) q hq e.symm))
        intro k hk
        by_cases e : k = n
        · subst e
          rw [HGD.out, HW.out]
          have e2 : (vs ++ [Value.slice na W.length nc]).getD vs.length (Value.slice none 0 0) = Value.slice na W.length nc := by simp
          rw [← hvl, e2]
          exact move _ _ HNn.out
        · have e2 : (vs ++ [Value.slice na W.length nc]).getD k (.slice none 0 0) = vs.getD k (.slice none 0 0) := by
            rw [List.getD_eq_getElem?_getD, List.getElem?_append_left (by omega), ← List.getD_eq_getElem?_getD]
          rw [e2]
          exact move _ _ (HN1.out k (by omega))
      have HV4 : Hid (∀ v ∈ vs ++ [Value.slice na W.length nc], v.oneCell' = true) := by
        intro v hv
        rcases List.mem_append.mp hv with q | q
        · exact HV.out v q
        · simp at q; subst q; rfl
      have HR4 : Hid (x4.ownsRow w.heap.size 28 1 (.slice (some ⟨g4, 0, none⟩) (n + 1) cap4) (n + 1) (vs ++ [Value.slice na W.length nc])) := hown4
      clear hgrow4 hown4 hat4 hR1
      go_wp2_with fail
      go_roundg (hs.length - (n + 1) + 1)
      case measure => omega
      case rel => exact ⟨n + 1, vs ++ [Value.slice na W.length nc], _, rfl, by omega, rfl, by go_num, by simp; omega, HR4, HN4, HV4, HB4⟩
    · have hlt' : ¬ (n : Int) < (hs.length : Int) := by omega
      have hnl : n = hs.length := by omega
      subst hnl
      have HWL : Hid (Ws (.slice la hs.length lc) (waitsL own hs) wz) := by
        show Ws _ _ _
        have hwl : (waitsL own hs).length = hs.length := by simp [waitsL]
        rcases HR.out.2 with ⟨q1, q2⟩ | ⟨g', cap', cur, q1, _, q2, q3, _⟩
        · exact Or.inl ⟨q1, List.eq_nil_of_length_eq_zero (by omega)⟩
        · cases q1
          refine Or.inr ⟨g', lc, fun k => vs.getD k (.slice none 0 0), by rw [hwl], by omega, whole_lt q2, ?_⟩
          intro k hk
          have hk' : k < hs.length := by omega
          have hkv : k < vs.length := by omega
          constructor
          · rw [HR.out.cellAt k (by omega)]
            simp [hkv]
          · have q := Ns.of (HN.out k hk')
            have e : (waitsL own hs)[k] = waitS own (hs.getD k hv0).want := by simp [waitsL, hk']
            rw [e]; exact q
      have hwl : (waitsL own hs).length = hs.length := by simp [waitsL]
      have HWJ : Hid (∀ l ∈ waitsL own hs, l.length ≤ 1000 ∧ ∀ j ∈ l, j < (waitsL own hs).length) := by
        intro l hl
        unfold waitsL at hl
        obtain ⟨h, h1, rfl⟩ := List.mem_map.mp hl
        have q := waitS_len own h.want
        have q2 := (HOKs.out h h1).ln
        exact ⟨by omega, fun j hj => by have := waitS_lt own h.want j hj; have := HM.out; rw [hwl]; omega⟩
      go_wp2_with fail
      refine (lkRingOf _ (waitsL own hs) wz HWL.out (by omega) HWJ.out).mono ?_
      rintro e x1 ⟨nv, rfl, hown1, hX1⟩
      have HB1 : Hid (Below w.heap.size w x1) := HB.out.trans (hX1.mono HB.out.size)
      have HR1 : Hid (x1.ownsRow w.heap.size 3 1 nv (ringF (waitsL own hs)).length ((ringF (waitsL own hs)).map iV)) := ownsRow_base hown1 HB.out.size
      clear hown1 hX1
      go_wp2_with fail
      go_ret
      exact ⟨_, rfl, HR1.out, HB1.out⟩
end Go.Proofs.Ytanknpmojblmcab
