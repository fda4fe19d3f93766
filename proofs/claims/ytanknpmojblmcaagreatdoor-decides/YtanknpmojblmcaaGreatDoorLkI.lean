/-
  Package link: the groups of a batch.
-/
import Derived.Test.YtanknpmojblmcaaGreatDoorLkH
import Derived.Test.YtanknpmojblmcaaGreatDoorLimits
set_option linter.unusedSimpArgs false
set_option linter.unusedVariables false
namespace Go.Proofs.YtanknpmojblmcaaGreatDoor
open Go.RowKit

/-- A list of heads with their steps, that may be read alone. -/
def HdL (v : Value) (hs : List HV) (w : World) : Prop :=
  (v = .slice none 0 0 ∧ hs = []) ∨ ∃ g cap, ∃ qs : Nat → Value, v = .slice (some ⟨g, 0, none⟩) hs.length cap ∧ hs.length ≤ cap ∧ g < w.heap.size ∧ ∀ k, (hk : k < hs.length) → Sr 0 (qs k) hs[k].want w ∧ ∀ j, j < 12 → w.cell? ⟨g, k * 12 + j, none⟩ = (hvC hs[k] (qs k))[j]?
theorem HdL.of {w : World} {base b : Nat} {v : Value} {hs : List HV} {xs : List (HV × Value)} (h : w.ownsRow base 64 12 v xs.length (flatH xs)) (hx : xs.map Prod.fst = hs) (hq : ∀ x ∈ xs, Sr b x.2 x.1.want w) : HdL v hs w := by
  subst hx
  rcases h.2 with ⟨hv, hn⟩ | ⟨g, cap, cur, hv, h1, h2, h3, h4, h5, h6⟩
  · exact Or.inl ⟨hv, by rw [List.eq_nil_of_length_eq_zero hn]; rfl⟩
  · right
    subst hv
    refine ⟨g, cap, fun k => (xs.getD k (hv0, .slice none 0 0)).2, by simp, by simpa using h3, whole_lt h2, ?_⟩
    intro k hk
    have hk' : k < xs.length := by simpa using hk
    have e : xs.getD k (hv0, .slice none 0 0) = xs[k] := by simp [hk']
    constructor
    · dsimp only
      rw [e]
      simp only [List.getElem_map]
      exact ownsRow_base (hq _ (List.getElem_mem hk')) (by omega)
    · intro j hj
      dsimp only
      rw [e, h.cellAt (k * 12 + j) (by omega), flatH_get xs k hk' j hj]
      simp
theorem HdL.below {v : Value} {hs : List HV} {w w' : World} (h : HdL v hs w) (k : Below w.heap.size w w') : HdL v hs w' := by
  rcases h with h | ⟨g, cap, qs, hv, hc, hg, hcell⟩
  · exact Or.inl h
  · exact Or.inr ⟨g, cap, qs, hv, hc, Nat.lt_of_lt_of_le hg k.size, fun i hi => ⟨owns_below (hcell i hi).1 k, fun j hj => (k.cell (p := ⟨g, i * 12 + j, none⟩) hg).trans ((hcell i hi).2 j hj)⟩⟩
theorem HdL.form {v : Value} {hs : List HV} {w : World} (h : HdL v hs w) : ∃ a c, v = .slice a hs.length c := by
  rcases h with ⟨rfl, rfl⟩ | ⟨g, cap, qs, rfl, _⟩
  · exact ⟨_, _, rfl⟩
  · exact ⟨_, _, rfl⟩

/-- What keeps a head's numbers small. -/
structure HOK (h : HV) : Prop where
  nm : h.name.length ≤ 1000
  ar : h.arr = true → h.lo ≤ h.hi ∧ h.hi < h.lo + 6
  hi : h.hi ≤ 900
  nd : h.nodes ≤ 8
  tm : h.time ≤ 12
  ln : h.want.length ≤ 1000
  op : ∀ x ∈ h.want, x.op ≤ 6 ∧ x.num ≤ 100000 ∧ x.pos ≤ 1000

def grpN (hs : List HV) (first : Nat) : Nat → List GV × Nat
  | 0 => ([], first)
  | n + 1 => ((grpN hs first n).1 ++ [grpH (hs.getD n hv0) (grpN hs first n).2], (grpN hs first n).2 + (grpH (hs.getD n hv0) (grpN hs first n).2).count)
def grpF (hs : List HV) (first : Nat) : List GV := (grpN hs first hs.length).1
theorem grpN_len (hs : List HV) (first : Nat) : ∀ n, (grpN hs first n).1.length = n := by
  intro n
  induction n with
  | zero => rfl
  | succ n ih => unfold grpN; simp [ih]
theorem grpN_le (hs : List HV) (first : Nat) (h : ∀ x ∈ hs, HOK x) : ∀ n, n ≤ hs.length → (grpN hs first n).2 ≤ first + 6 * n := by
  intro n
  induction n with
  | zero => intro _; exact Nat.le_refl _
  | succ n ih =>
    intro hn
    have h1 := ih (by omega)
    have h2 : HOK (hs.getD n hv0) := by
      have e : hs.getD n hv0 = hs[n] := by simp [show n < hs.length by omega]
      rw [e]; exact h _ (List.getElem_mem _)
    have h3 : (grpH (hs.getD n hv0) (grpN hs first n).2).count ≤ 6 := by
      unfold grpH
      split
      · rename_i ha; have := h2.ar ha; show (hs.getD n hv0).hi + 1 - (hs.getD n hv0).lo ≤ 6; omega
      · show 1 ≤ 6; omega
    unfold grpN
    dsimp only
    omega

theorem row_formL {w : World} {base : Nat} {e : TypeId} {size : Nat} {v : Value} {n : Nat} {xs : List Value} (h : w.ownsRow base e size v n xs) : ∃ a c, v = .slice a n c := by
  rcases h.2 with ⟨rfl, rfl⟩ | ⟨g, cap, cur, rfl, _⟩
  · exact ⟨_, _, rfl⟩
  · exact ⟨_, _, rfl⟩
theorem infoGroup : (Tryz.prog.info? 107).map (fun i => (i.zero, i.size, i.bytes)) = some (some (.agg #[.string ⟨#[]⟩, .bool false, .int .i64 0, .int .i64 0, .int .i64 0]), 5, 48) := by kernel_rfl

set_option maxRecDepth 100000 in
set_option maxHeartbeats 1000000 in
theorem lkGroups (v : Value) (hs : List HV) (first : Nat) (w : World) (hH : HdL v hs w) (hl : hs.length ≤ 100) (hf : first ≤ 100) (hok : ∀ x ∈ hs, HOK x) :
    Calls Tryz.prog 21 #[v, .int .i64 (first : Int)] w fun e w' => ∃ x, e = .returned x ∧ w'.ownsRow w.heap.size 107 5 x (grpF hs first).length (flatG (grpF hs first)) ∧ Below w.heap.size w w' := by
  obtain ⟨i0, hI0, hz0, hz1, hz2⟩ := info_parts infoGroup
  obtain ⟨a, c, rfl⟩ := hH.form
  have HH : Hid (HdL (.slice a hs.length c) hs w) := hH
  have HOKs : Hid (∀ x ∈ hs, HOK x) := hok
  clear hH hok
  go_enter Tryz.func21, Tryz.ntmps21
  go_wp2_with fail
  have HL : Hid (∀ n, n ≤ hs.length → (grpN hs first n).2 ≤ first + 6 * n ∧ (grpN hs first n).1.length = n) := fun n hn => ⟨grpN_le hs first HOKs.out n hn, grpN_len hs first n⟩
  go_loopg [1, 5, 11] (hs.length + 1) (fun r fv lv x wr => ∃ (n : Nat) (wz : World), wz = wr ∧ n ≤ hs.length ∧ r = hs.length - n + 1 ∧ x = .int .i64 (n : Int) ∧ fv = .int .i64 ((grpN hs first n).2 : Int) ∧ wz.ownsRow w.heap.size 107 5 lv n (flatG (grpN hs first n).1) ∧ Below w.heap.size w wz)
  case atStart => exact ⟨0, _, rfl, Nat.zero_le _, rfl, rfl, rfl, World.ownsRow_nil _ _ _ _, Below.refl _ _⟩
  case round =>
    obtain ⟨n, wz, rfl, hn, rfl, rfl, rfl, hown, hB⟩ := hrel
    obtain ⟨hfl, hgl⟩ := HL.out n hn
    obtain ⟨la, lc, rfl⟩ := row_formL hown
    by_cases hlt : n < hs.length
    · have hlt' : (n : Int) < (hs.length : Int) := by omega
      rcases HH.out with ⟨_, he⟩ | ⟨b, cap, qs, hv, hcap, hb, hcell⟩
      · rw [he] at hlt; simp at hlt
      cases hv
      have hcl : ∀ j, j < 12 → wz.cell? ⟨b, n * 12 + j, none⟩ = (hvC hs[n] (qs n))[j]? := fun j hj => (hB.cell hb).trans ((hcell n hlt).2 j hj)
      have l0 := hcl 0 (by omega); have l1 := hcl 1 (by omega); have l2 := hcl 2 (by omega); have l3 := hcl 3 (by omega); have l4 := hcl 4 (by omega); have l5 := hcl 5 (by omega)
      have l6 := hcl 6 (by omega); have l7 := hcl 7 (by omega); have l8 := hcl 8 (by omega); have l9 := hcl 9 (by omega); have l10 := hcl 10 (by omega); have l11 := hcl 11 (by omega)
      obtain ⟨qa, qc, hq⟩ := (hcell n hlt).1.form
      generalize qs n = q at *
      subst hq
      simp [hvC] at l0 l1 l2 l3 l4 l5 l6 l7 l8 l9 l10 l11
      have hg : HOK hs[n] := HOKs.out _ (List.getElem_mem hlt)
      have HSU : Hid (grpN hs first (n + 1) = ((grpN hs first n).1 ++ [grpH hs[n] (grpN hs first n).2], (grpN hs first n).2 + (grpH hs[n] (grpN hs first n).2).count)) := by
        show _ = _
        have e : hs.getD n hv0 = hs[n] := by simp [hlt]
        rw [← e]; rfl
      have hcnt : (grpH hs[n] (grpN hs first n).2).count ≤ 6 := by
        unfold grpH
        split
        · rename_i ha; have := hg.ar ha; show hs[n].hi + 1 - hs[n].lo ≤ 6; omega
        · show 1 ≤ 6; omega
      clear hcl hcell
      generalize hs[n] = h at *
      generalize grpN hs first n = Y at *
      obtain ⟨E, f⟩ := Y
      dsimp only at *
      have hsz := hB.size
      have hB2 := hB.alloc hB.size (.cells #[.string (bs h.name), .int .i64 (h.nodes : Int), .int .i64 (h.time : Int), .bool h.arr, .int .i64 (h.lo : Int), .int .i64 (h.hi : Int), .string (bs h.after), .slice qa h.want.length qc, .int .i64 (h.nameAt : Int), .int .i64 (h.nodesAt : Int), .int .i64 (h.timeAt : Int), .int .i64 (h.arrayAt : Int)] 64)
      have hown2 := hown.alloc (.cells #[.string (bs h.name), .int .i64 (h.nodes : Int), .int .i64 (h.time : Int), .bool h.arr, .int .i64 (h.lo : Int), .int .i64 (h.hi : Int), .string (bs h.after), .slice qa h.want.length qc, .int .i64 (h.nameAt : Int), .int .i64 (h.nodesAt : Int), .int .i64 (h.timeAt : Int), .int .i64 (h.arrayAt : Int)] 64)
      go_wp2_with fail
      refine (lkGroup h (.slice qa h.want.length qc) f _ hg.nm (fun q => (hg.ar q).1) (by have := hg.hi; omega) (by omega)).mono ?_
      rintro e x1 ⟨he, hX1⟩
      have hB3 := hB2.trans (hX1.mono (by simp; omega))
      have hown3 := owns_below hown2 hX1
      generalize grpH h f = G at *
      unfold gvC at he
      subst he
      clear hX1 hB2 hown2 hown hB l0 l1 l2 l3 l4 l5 l6 l7 l8 l9 l10 l11
      have Y : ((x1.alloc (.cells #[.string (bs G.name), .bool G.arr, .int .i64 (G.lo : Int), .int .i64 (G.first : Int), .int .i64 (G.count : Int)] 107)).alloc (.cells #[.string (bs G.name), .bool G.arr, .int .i64 (G.lo : Int), .int .i64 (G.first : Int), .int .i64 (G.count : Int)] 107)).heap[x1.heap.size + 1]? = some (.cells (gvC G) 107 (0, 0)) := by
        have q := whole_new (x1.alloc (.cells #[.string (bs G.name), .bool G.arr, .int .i64 (G.lo : Int), .int .i64 (G.first : Int), .int .i64 (G.count : Int)] 107)) (.cells (gvC G) 107 (0, 0))
        rw [World.size_alloc] at q
        exact q
      have hsz3 := hB3.size
      have Yg := whole_new x1 (.cells (gvC G) 107 (0, 0))
      go_wp2_with (at_builtin; refine wpList_append_lies _ rfl _ _ 69 rfl w.heap.size 107 i0 (.agg #[.string ⟨#[]⟩, .bool false, .int .i64 0, .int .i64 0, .int .i64 0]) 5 48 Tryz.underlying69 hI0 hz0 hz1 hz2 rfl (by decide) _ n _ rfl ((hown3.alloc _).alloc _) ⟨x1.heap.size + 1, 0, none⟩ 1 1 [.string (bs G.name), .bool G.arr, .int .i64 (G.lo : Int), .int .i64 (G.first : Int), .int .i64 (G.count : Int)] rfl rfl (World.news_of_block (cs := #[.string (bs G.name), .bool G.arr, .int .i64 (G.lo : Int), .int .i64 (G.first : Int), .int .i64 (G.count : Int)]) (t := 107) (fr := (0, 0)) Y) ?c2 (by decide) ?c3 ?c4 ?c5 _ rfl ?_)
      case c2 => intro u hu; simp at hu; rcases hu with rfl | rfl | rfl | rfl | rfl <;> rfl
      case c3 => unfold maxLen; omega
      case c4 => omega
      case c5 => first | omega | (simp; omega)
      intro g4 cap4 x4 hown4 hgrow4 hat4 hlt4
      have hB4 : Below w.heap.size w x4 := ((hB3.alloc hsz3 _).alloc (by simp; omega) _).grown hgrow4 (by simp; omega) (fun q hq => (hown3.lt q hq).1)
      have Y4 : x4.heap[x1.heap.size]? = some (.cells (gvC G) 107 (0, 0)) := (hgrow4.block _ (by simp; omega) (fun e => by have := (hown3.lt _ e.symm).2; omega)).trans (whole_alloc Yg _)
      have d4 := whole_cell Y4 4
      simp [gvC] at d4
      replace hown4 : x4.ownsRow w.heap.size 107 5 (.slice (some ⟨g4, 0, none⟩) (n + 1) cap4) (n + 1) (flatG (E ++ [G])) := by
        rw [flatG_snoc]; exact hown4
      clear hgrow4 hown3 hB3 hat4 Y Yg Y4
      go_wp2_with fail
      go_roundg (hs.length - (n + 1) + 1)
      case measure => omega
      case rel => exact ⟨n + 1, _, rfl, by omega, rfl, by go_num, by rw [HSU.out]; go_num, by rw [HSU.out]; exact hown4, hB4⟩
    · have hlt' : ¬ (n : Int) < (hs.length : Int) := by omega
      have hnl : n = hs.length := by omega
      subst hnl
      go_wp2_with fail
      go_ret
      exact ⟨_, rfl, by unfold grpF; rw [hgl]; exact hown, hB⟩
end Go.Proofs.YtanknpmojblmcaaGreatDoor
