/-
  Package link: the code of a head.
-/
import Derived.Test.YtanknpmojblmcaaGreatDoorLkJ
set_option linter.unusedSimpArgs false
set_option linter.unusedVariables false
namespace Go.Proofs.YtanknpmojblmcaaGreatDoor
open Go.RowKit

def stepC (before own : List GV) (nm : List UInt8) (x : Stp) : List UInt8 :=
  if x.op = 5 ∨ x.op = 6 then [UInt8.ofNat x.op] else if x.op = 4 then askAll 4 (earlG before nm) else askAll x.op (jobsG (meantG before own x.name) x.nbd x.num)
def codeN (before own : List GV) (h : HV) : Nat → List UInt8
  | 0 => []
  | n + 1 => codeN before own h n ++ stepC before own h.name (h.want.getD n (stp 0))
def codeF (before own : List GV) (h : HV) : List UInt8 := if h.want = [] then [0] else codeN before own h h.want.length

/-- Groups whose jobs there may be. -/
def GOK (g : GV) : Prop := g.first + g.count ≤ 24 ∧ g.lo ≤ 900
theorem meant_mem {before own : List GV} {nm : List UInt8} {g : GV} (h : meantG before own nm = some g) : g ∈ own ∨ g ∈ before := by
  unfold meantG at h
  split at h
  · exact Or.inl (List.mem_of_getElem? h)
  · split at h
    · exact Or.inr (List.mem_of_getElem? h)
    · simp at h

theorem askAll_len (op : Nat) (js : List Nat) : (askAll op js).length ≤ 3 * js.length + 1 := by
  unfold askAll
  split
  · simp
  · have := askN_len op js js.length
    omega
theorem jobsG_len {before own : List GV} {nm : List UInt8} {nbd : Bool} {num : Nat} (hgb : ∀ g ∈ before, GOK g) (hgo : ∀ g ∈ own, GOK g) : (jobsG (meantG before own nm) nbd num).length ≤ 24 := by
  cases hm : meantG before own nm with
  | none => simp [jobsG]
  | some g =>
    have hg : GOK g := by
      rcases meant_mem hm with q | q
      · exact hgo g q
      · exact hgb g q
    unfold jobsG
    dsimp only
    split
    · simp
    · have := hg.1; simp; omega
theorem codeN_len {before own : List GV} {h : HV} (hgb : ∀ g ∈ before, GOK g) (hgo : ∀ g ∈ own, GOK g) (hea : (earlG before h.name).length ≤ 1000) : ∀ k, (codeN before own h k).length ≤ 3001 * k := by
  intro k
  induction k with
  | zero => simp [codeN]
  | succ k ih =>
    unfold codeN
    rw [List.length_append]
    have h1 : (stepC before own h.name (h.want.getD k (stp 0))).length ≤ 3001 := by
      unfold stepC
      split
      · simp
      · split
        · have := askAll_len 4 (earlG before h.name); omega
        · have := askAll_len (h.want.getD k (stp 0)).op (jobsG (meantG before own (h.want.getD k (stp 0)).name) (h.want.getD k (stp 0)).nbd (h.want.getD k (stp 0)).num)
          have q := jobsG_len (nm := (h.want.getD k (stp 0)).name) (nbd := (h.want.getD k (stp 0)).nbd) (num := (h.want.getD k (stp 0)).num) hgb hgo
          omega
    omega

set_option maxRecDepth 100000 in
set_option maxHeartbeats 2000000 in
theorem lkCode (v u q : Value) (before own : List GV) (h : HV) (w : World) (hB : Gs v before w) (hO : Gs u own w) (hS : Ss q h.want w) (hl : before.length ≤ 1000) (hm : own.length ≤ 1000) (hok : HOK h)
    (hgb : ∀ g ∈ before, GOK g) (hgo : ∀ g ∈ own, GOK g) (hex : ∀ x ∈ h.want, 1 ≤ x.op ∧ (hasR x = true → exS before own x = true)) (hea : (earlG before h.name).length ≤ 1000 ∧ ∀ j ∈ earlG before h.name, j < 256) :
    Calls Tryz.prog 49 #[v, u, .agg (hvC h q)] w fun e w' => e = .returned (.string (bs (codeF before own h))) ∧ Below w.heap.size w w' := by
  obtain ⟨a, c, rfl⟩ := hB.form
  obtain ⟨a', c', rfl⟩ := hO.form
  obtain ⟨qa, qc, rfl⟩ : ∃ qa qc, q = .slice qa h.want.length qc := by
    rcases hS with ⟨rfl, e⟩ | ⟨g, cap, rfl, _⟩
    · rw [e]; exact ⟨_, _, rfl⟩
    · exact ⟨_, _, rfl⟩
  have HB : Hid (Gs (.slice a before.length c) before w) := hB
  have HO : Hid (Gs (.slice a' own.length c') own w) := hO
  have HS : Hid (Ss (.slice qa h.want.length qc) h.want w) := hS
  have HEX : Hid (∀ x ∈ h.want, 1 ≤ x.op ∧ (hasR x = true → exS before own x = true)) := hex
  have HGB : Hid (∀ g ∈ before, GOK g) := hgb
  have HGO : Hid (∀ g ∈ own, GOK g) := hgo
  have HEA : Hid ((earlG before h.name).length ≤ 1000 ∧ ∀ j ∈ earlG before h.name, j < 256) := hea
  have hwl := hok.ln
  have HCL : Hid (∀ k, (codeN before own h k).length ≤ 3001 * k) := codeN_len hgb hgo hea.1
  clear hB hO hS hex hgb hgo hea
  have HX : Hid (Below w.heap.size w (w.alloc (.cells #[.string (bs h.name), .int .i64 (h.nodes : Int), .int .i64 (h.time : Int), .bool h.arr, .int .i64 (h.lo : Int), .int .i64 (h.hi : Int), .string (bs h.after), .slice qa h.want.length qc, .int .i64 (h.nameAt : Int), .int .i64 (h.nodesAt : Int), .int .i64 (h.timeAt : Int), .int .i64 (h.arrayAt : Int)] 64))) := (Below.refl _ w).alloc (Nat.le_refl _) _
  have Y := whole_new w (.cells (hvC h (.slice qa h.want.length qc)) 64 (0, 0))
  replace Y : (w.alloc (.cells #[.string (bs h.name), .int .i64 (h.nodes : Int), .int .i64 (h.time : Int), .bool h.arr, .int .i64 (h.lo : Int), .int .i64 (h.hi : Int), .string (bs h.after), .slice qa h.want.length qc, .int .i64 (h.nameAt : Int), .int .i64 (h.nodesAt : Int), .int .i64 (h.timeAt : Int), .int .i64 (h.arrayAt : Int)] 64)).heap[w.heap.size]? = some (.cells (hvC h (.slice qa h.want.length qc)) 64 (0, 0)) := Y
  unfold hvC
  by_cases h0 : h.want = []
  · have HE : Hid (codeF before own h = [0]) := by show _ = _; unfold codeF; rw [if_pos h0]
    have hwz : ((h.want.length : Int) == 0) = true := by rw [h0]; rfl
    clear h0
    go_enter Tryz.func49, Tryz.ntmps49
    go_wp2_with fail
    refine (lkText 0 (by omega) _).mono ?_
    rintro e x1 ⟨rfl, hX1⟩
    have HB1 : Hid (Below w.heap.size w x1) := HX.out.trans (hX1.mono HX.out.size)
    clear hX1
    go_wp2_with fail
    go_ret
    exact ⟨by rw [HE.out]; rfl, HB1.out⟩
  · have hpos : 0 < h.want.length := List.length_pos_iff.mpr h0
    have HE : Hid (codeF before own h = codeN before own h h.want.length) := by show _ = _; unfold codeF; rw [if_neg h0]
    have hwz : ((h.want.length : Int) == 0) = false := by rw [beq_eq_false_iff_ne]; omega
    clear h0
    go_enter Tryz.func49, Tryz.ntmps49
    go_wp2_with fail
    generalize w.alloc (.cells #[.string (bs h.name), .int .i64 (h.nodes : Int), .int .i64 (h.time : Int), .bool h.arr, .int .i64 (h.lo : Int), .int .i64 (h.hi : Int), .string (bs h.after), .slice qa h.want.length qc, .int .i64 (h.nameAt : Int), .int .i64 (h.nodesAt : Int), .int .i64 (h.timeAt : Int), .int .i64 (h.arrayAt : Int)] 64) = X at *
    go_loopg [7, 20] (h.want.length + 1) (fun r cv x wr => ∃ (k : Nat) (wz : World), wz = wr ∧ k ≤ h.want.length ∧ r = h.want.length - k + 1 ∧ x = .int .i64 (k : Int) ∧ cv = .string (bs (codeN before own h k)) ∧ Hid (Below X.heap.size X wz))
    case atStart => exact ⟨0, _, rfl, Nat.zero_le _, rfl, rfl, rfl, Below.refl _ _⟩
    case round =>
      obtain ⟨k, wz, rfl, hk, rfl, rfl, rfl, HBz⟩ := hrel
      have HBw : Hid (Below w.heap.size w wz) := HX.out.trans (HBz.out.mono HX.out.size)
      by_cases hkl : k < h.want.length
      · have hkl' : (k : Int) < (h.want.length : Int) := by omega
        rcases HS.out with ⟨_, he⟩ | ⟨b2, cap2, hv, hcap2, hb2, hcell⟩
        · rw [he] at hkl; simp at hkl
        cases hv
        have hcl : ∀ j, j < 5 → wz.cell? ⟨b2, k * 5 + j, none⟩ = (spC h.want[k])[j]? := fun j hj => (HBw.out.cell hb2).trans (hcell k hkl j hj)
        have l0 := hcl 0 (by omega); have l1 := hcl 1 (by omega); have l2 := hcl 2 (by omega); have l3 := hcl 3 (by omega); have l4 := hcl 4 (by omega)
        simp [spC] at l0 l1 l2 l3 l4
        have hx := hok.op _ (List.getElem_mem hkl)
        have hxe := HEX.out _ (List.getElem_mem hkl)
        have HSU : Hid (codeN before own h (k + 1) = codeN before own h k ++ stepC before own h.name h.want[k]) := by
          show _ = _
          have e : h.want.getD k (stp 0) = h.want[k] := by simp [hkl]
          rw [← e]; rfl
        clear hcl hcell
        generalize h.want[k] = x at *
        have hEl := HCL.out k
        generalize codeN before own h k = E at *
        obtain ⟨hx1, hx2, hx3⟩ := hx
        obtain ⟨hx4, hx5⟩ := hxe
        have HX5 : Hid (hasR x = true → exS before own x = true) := hx5
        clear hx5
        have Ys := whole_new wz (.cells (spC x) 112 (0, 0))
        replace Ys : (wz.alloc (.cells #[.int .i64 (x.op : Int), .int .i64 (x.pos : Int), .string (bs x.name), .bool x.nbd, .int .i64 (x.num : Int)] 112)).heap[wz.heap.size]? = some (.cells (spC x) 112 (0, 0)) := Ys
        have HBa : Hid (Below X.heap.size X (wz.alloc (.cells #[.int .i64 (x.op : Int), .int .i64 (x.pos : Int), .string (bs x.name), .bool x.nbd, .int .i64 (x.num : Int)] 112))) := HBz.out.alloc HBz.out.size _
        have hlx : w.heap.size < X.heap.size := whole_lt Y
        have d0 := (HBz.out.cell (p := ⟨w.heap.size, 0, none⟩) hlx).trans (whole_cell Y 0)
        simp [hvC] at d0
        have hlz : w.heap.size < wz.heap.size := Nat.lt_of_lt_of_le hlx HBz.out.size
        by_cases h56 : x.op = 5 ∨ x.op = 6
        · have HSC : Hid (stepC before own h.name x = [UInt8.ofNat x.op]) := by show _ = _; unfold stepC; rw [if_pos h56]
          rw [HSC.out] at HSU
          rcases h56 with h5 | h5
          · rw [h5] at l0 HSU HBa Ys
            have hS1 : ¬ 9223372036854775807 < (bs E).size + (bs [UInt8.ofNat 5]).size := by rw [bs_size, bs_size]; simp; omega
            go_wp2_with fail
            refine (lkText 5 (by omega) _).mono ?_
            rintro e y1 ⟨rfl, hY1⟩
            have HB1 : Hid (Below X.heap.size X y1) := HBa.out.trans (hY1.mono HBa.out.size)
            clear hY1
            go_wp2_with fail
            go_roundg (h.want.length - (k + 1) + 1)
            case measure => omega
            case rel => exact ⟨k + 1, _, rfl, by omega, rfl, by go_num, by rw [HSU.out, ← bs_append]; rfl, HB1⟩
          · rw [h5] at l0 HSU HBa Ys
            have hS1 : ¬ 9223372036854775807 < (bs E).size + (bs [UInt8.ofNat 6]).size := by rw [bs_size, bs_size]; simp; omega
            go_wp2_with fail
            refine (lkText 6 (by omega) _).mono ?_
            rintro e y1 ⟨rfl, hY1⟩
            have HB1 : Hid (Below X.heap.size X y1) := HBa.out.trans (hY1.mono HBa.out.size)
            clear hY1
            go_wp2_with fail
            go_roundg (h.want.length - (k + 1) + 1)
            case measure => omega
            case rel => exact ⟨k + 1, _, rfl, by omega, rfl, by go_num, by rw [HSU.out, ← bs_append]; rfl, HB1⟩
        · by_cases h4 : x.op = 4
          · have HSC : Hid (stepC before own h.name x = askAll 4 (earlG before h.name)) := by show _ = _; unfold stepC; rw [if_neg h56, if_pos h4]
            rw [HSC.out] at HSU
            rw [h4] at l0 HBa Ys
            obtain ⟨he1, he2⟩ := HEA.out
            have HE2 : Hid (∀ j ∈ earlG before h.name, j < 256) := he2
            clear he2
            have hal := askAll_len 4 (earlG before h.name)
            have hS1 : ¬ 9223372036854775807 < (bs E).size + (bs (askAll 4 (earlG before h.name))).size := by rw [bs_size, bs_size]; omega
            go_wp2_with fail
            generalize wz.alloc (.cells #[.int .i64 4, .int .i64 (x.pos : Int), .string (bs x.name), .bool x.nbd, .int .i64 (x.num : Int)] 112) = y0 at *
            generalize wz.heap.size = yb at *
            have HB0 : Hid (Below w.heap.size w y0) := HX.out.trans (HBa.out.mono HX.out.size)
            refine (lkEarlier _ before h.name y0 (HB.out.below HB0.out) hl (fun g hg => ⟨by have := (HGB.out g hg).1; omega, by have := (HGB.out g hg).1; omega⟩)).mono ?_
            rintro e y1 ⟨nv, rfl, hN1, hY1⟩
            have Y1 := (hY1.block _ (whole_lt Ys)).trans Ys
            have HB1 : Hid (Below X.heap.size X y1) := HBa.out.trans (hY1.mono HBa.out.size)
            have HN1 : Hid (Ns nv (earlG before h.name) y1) := hN1
            obtain ⟨na, nc, rfl⟩ := hN1.form
            have f0 := whole_cell Y1 0
            simp [spC, h4] at f0
            clear hY1 hN1 l0 l1 l2 l3 l4 Ys
            go_wp2_with fail
            refine (lkOfAll _ 4 (earlG before h.name) y1 HN1.out (by omega) he1 HE2.out).mono ?_
            rintro e y2 ⟨rfl, hY2⟩
            have HB2 : Hid (Below X.heap.size X y2) := HB1.out.trans (hY2.mono HB1.out.size)
            clear hY2 Y1 f0
            go_wp2_with fail
            go_roundg (h.want.length - (k + 1) + 1)
            case measure => omega
            case rel => exact ⟨k + 1, _, rfl, by omega, rfl, by go_num, by rw [HSU.out, ← bs_append], HB2⟩
          · have HSC : Hid (stepC before own h.name x = askAll x.op (jobsG (meantG before own x.name) x.nbd x.num)) := by show _ = _; unfold stepC; rw [if_neg h56, if_neg h4]
            rw [HSC.out] at HSU
            have c5 : ((x.op : Int) == 5) = false := by rw [beq_eq_false_iff_ne]; omega
            have c6 : ((x.op : Int) == 6) = false := by rw [beq_eq_false_iff_ne]; omega
            have c4 : ((x.op : Int) == 4) = false := by rw [beq_eq_false_iff_ne]; omega
            have hr : hasR x = true := by
              unfold hasR
              have : x.op = 1 ∨ x.op = 2 ∨ x.op = 3 := by omega
              rcases this with q | q | q <;> simp [q]
            have hex := HX5.out hr
            have HJG : Hid (∀ g, meantG before own x.name = some g → g.lo ≤ 1000 ∧ g.count ≤ 1000 ∧ g.first ≤ 1000 ∧ (x.nbd = true → g.lo ≤ x.num)) := by
              intro g hg
              have hgk : GOK g := by
                rcases meant_mem hg with q | q
                · exact HGO.out g q
                · exact HGB.out g q
              have h1 := hgk.1
              refine ⟨by have := hgk.2; omega, by omega, by omega, fun hb => ?_⟩
              unfold exS at hex
              rw [hg, hb] at hex
              simp [existsG] at hex
              exact hex.1.2
            have HJ2 : Hid (∀ j ∈ jobsG (meantG before own x.name) x.nbd x.num, j < 256) := by
              intro j hj
              unfold exS at hex
              cases hm2 : meantG before own x.name with
              | none => rw [hm2] at hj; simp [jobsG] at hj
              | some g =>
                rw [hm2] at hj hex
                have hgk : GOK g := by
                  rcases meant_mem hm2 with q | q
                  · exact HGO.out g q
                  · exact HGB.out g q
                have h1 := hgk.1
                unfold jobsG at hj
                dsimp only at hj
                cases hb : x.nbd with
                | true =>
                  rw [hb] at hj hex
                  simp [existsG] at hex
                  simp at hj
                  omega
                | false =>
                  rw [hb] at hj
                  simp at hj
                  obtain ⟨i, hi, rfl⟩ := hj
                  omega
            have hjl := jobsG_len (nm := x.name) (nbd := x.nbd) (num := x.num) HGB.out HGO.out
            have hal := askAll_len x.op (jobsG (meantG before own x.name) x.nbd x.num)
            have hS1 : ¬ 9223372036854775807 < (bs E).size + (bs (askAll x.op (jobsG (meantG before own x.name) x.nbd x.num))).size := by rw [bs_size, bs_size]; omega
            clear hex
            go_wp2_with fail
            generalize wz.alloc (.cells #[.int .i64 (x.op : Int), .int .i64 (x.pos : Int), .string (bs x.name), .bool x.nbd, .int .i64 (x.num : Int)] 112) = y0 at *
            generalize wz.heap.size = yb at *
            have HB0 : Hid (Below w.heap.size w y0) := HX.out.trans (HBa.out.mono HX.out.size)
            refine (lkNamed _ _ before own x.pos x.name x.nbd x.num y0 (HB.out.below HB0.out) (HO.out.below HB0.out) hl hm HJG.out hx2).mono ?_
            rintro e y1 ⟨nv, rfl, hN1, hY1⟩
            have Y1 := (hY1.block _ (whole_lt Ys)).trans Ys
            have HB1 : Hid (Below X.heap.size X y1) := HBa.out.trans (hY1.mono HBa.out.size)
            have HN1 : Hid (Ns nv (jobsG (meantG before own x.name) x.nbd x.num) y1) := hN1
            obtain ⟨na, nc, rfl⟩ := hN1.form
            have f0 := whole_cell Y1 0
            simp [spC] at f0
            clear hY1 hN1 l0 l1 l2 l3 l4 Ys
            go_wp2_with fail
            refine (lkOfAll _ x.op (jobsG (meantG before own x.name) x.nbd x.num) y1 HN1.out (by omega) (by omega) HJ2.out).mono ?_
            rintro e y2 ⟨rfl, hY2⟩
            have HB2 : Hid (Below X.heap.size X y2) := HB1.out.trans (hY2.mono HB1.out.size)
            clear hY2 Y1 f0
            go_wp2_with fail
            go_roundg (h.want.length - (k + 1) + 1)
            case measure => omega
            case rel => exact ⟨k + 1, _, rfl, by omega, rfl, by go_num, by rw [HSU.out, ← bs_append], HB2⟩
      · have hkl' : ¬ (k : Int) < (h.want.length : Int) := by omega
        have hkk : k = h.want.length := by omega
        subst hkk
        go_wp2_with fail
        go_ret
        exact ⟨by rw [HE.out]; rfl, HBw.out⟩
end Go.Proofs.YtanknpmojblmcaaGreatDoor
