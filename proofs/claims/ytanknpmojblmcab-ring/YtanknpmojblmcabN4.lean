/-
  RgP RgQ RgR RgF RgG, put together.
-/
import Derived.Test.YtanknpmojblmcabN3
import Derived.Test.YtanknpmojblmcabRows
import Derived.ProofKit
import Derived.OpenShut
import Derived.ShutString
import Derived.ChangeOld
import Derived.Below
/-
  What a system does with the heads of a ring.
-/
set_option linter.unusedSimpArgs false
set_option linter.unusedVariables false
namespace Go.Proofs.Ytanknpmojblmcab

def gR (i : Nat) : GV := ⟨nmR i, false, 0, i, 1⟩
def ownR (n : Nat) : List GV := (List.range n).map gR
/-- Heads that were read. -/
def HsR (n m : Nat) (O : Nat → Option (Nat × Nat)) (hs : List HV) : Prop := hs.length = n ∧ ∀ k (hk : k < hs.length), LinQ k (O k) m hs[k]
def OOK (n : Nat) (O : Nat → Option (Nat × Nat)) : Prop := ∀ i x, O i = some x → 1 ≤ x.1 ∧ x.1 ≤ 3 ∧ x.2 < n

theorem ownR_get {n i : Nat} (h : i < n) : (ownR n)[i]? = some (gR i) := by simp [ownR, h]
theorem grp_R {n m : Nat} {O : Nat → Option (Nat × Nat)} {hs : List HV} (h : HsR n m O hs) : ∀ k, k ≤ n → grpN hs 0 k = (ownR k, k) := by
  intro k
  induction k with
  | zero => intro _; rfl
  | succ k ih =>
    intro hk
    have hkl : k < hs.length := by rw [h.1]; omega
    have e : hs.getD k hv0 = hs[k] := by simp [hkl]
    have q := h.2 k hkl
    have g : grpH hs[k] k = gR k := by unfold grpH; rw [q.arr, if_neg (by decide), q.name]; rfl
    unfold grpN
    rw [ih (by omega), e]
    dsimp only
    rw [g]
    simp [ownR, List.range_succ, gR]
theorem grpF_R {n m : Nat} {O : Nat → Option (Nat × Nat)} {hs : List HV} (h : HsR n m O hs) : grpF hs 0 = ownR n := by
  unfold grpF
  rw [h.1, grp_R h n (Nat.le_refl _)]
theorem lat_R {n k : Nat} (hn : n ≤ 12) (hk : k < n) : ∀ m, m ≤ n → latN (ownR n) (nmR k) m = if k < m then some k else none := by
  intro m
  induction m with
  | zero => intro _; rfl
  | succ m ih =>
    intro hm
    unfold latN
    rw [ownR_get (by omega)]
    by_cases e : m = k
    · subst e
      rw [if_pos (by rfl), if_pos (by omega)]
    · rw [if_neg (by
        intro q
        simp [gR] at q
        exact e (nmR_inj (by omega) (by omega) q)), ih (by omega)]
      by_cases q : k < m
      · rw [if_pos q, if_pos (by omega)]
      · rw [if_neg q, if_neg (by omega)]
theorem meant_R {n k : Nat} (hn : n ≤ 12) (hk : k < n) (before : List GV) : meantG before (ownR n) (nmR k) = some (gR k) := by
  unfold meantG
  have hl : (ownR n).length = n := by simp [ownR]
  rw [hl, lat_R hn hk n (Nat.le_refl _), if_pos hk]
  exact ownR_get hk
theorem cnt_R (n : Nat) : cntG (ownR n) = n := by
  induction n with
  | zero => rfl
  | succ n ih =>
    have e : ownR (n + 1) = ownR n ++ [gR n] := by simp [ownR, List.range_succ]
    rw [e, cntG_app, ih]
    rfl

theorem wide_R {N : Nat} (hN : 1 ≤ N) : ∀ (hs : List HV), (∀ h ∈ hs, h.nodes = 1) → wideF N hs = none := by
  intro hs
  induction hs with
  | nil => intro _; rfl
  | cons h r ih =>
    intro q
    unfold wideF
    rw [if_neg (by rw [q h (by simp)]; omega)]
    exact ih (fun x hx => q x (by simp [hx]))
theorem want_R {n m : Nat} {O : Nat → Option (Nat × Nat)} {hs : List HV} (h : HsR n m O hs) (ho : OOK n O) (hn : n ≤ 12) (before : List GV) (k : Nat) (hk : k < hs.length) :
    missS before (ownR n) hs[k].want = none ∧ waitS (ownR n) hs[k].want = (match O k with | none => [] | some x => [x.2]) ∧ codeF before (ownR n) hs[k] = (match O k with | none => [0] | some x => [UInt8.ofNat x.1, UInt8.ofNat x.2]) := by
  obtain ⟨pos, _, hw⟩ := (h.2 k hk).want
  cases hO : O k with
  | none =>
    rw [hO] at hw
    have hw' : hs[k].want = [] := hw
    rw [hw']
    refine ⟨rfl, rfl, ?_⟩
    unfold codeF
    rw [hw', if_pos rfl]
  | some x =>
    rw [hO] at hw
    have hw' : hs[k].want = [⟨x.1, pos, nmR x.2, false, 0⟩] := hw
    obtain ⟨o1, o2, o3⟩ := ho k x hO
    have hr : hasR ⟨x.1, pos, nmR x.2, false, 0⟩ = true := by
      unfold hasR
      have : x.1 = 1 ∨ x.1 = 2 ∨ x.1 = 3 := by omega
      rcases this with q | q | q <;> simp [q]
    have he : exS before (ownR n) ⟨x.1, pos, nmR x.2, false, 0⟩ = true := by
      unfold exS
      dsimp only
      rw [meant_R hn o3]
      rfl
    have hl : (ownR n).length = n := by simp [ownR]
    rw [hw']
    refine ⟨?_, ?_, ?_⟩
    · unfold missS
      rw [if_neg (by rw [he]; simp)]
      rfl
    · simp only [waitS, hr, if_true]
      rw [hl, lat_R hn o3 n (Nat.le_refl _), if_pos o3]
    · unfold codeF
      rw [hw', if_neg (by simp)]
      simp only [List.length_singleton, codeN, hw']
      unfold stepC
      simp only [List.getD_cons_zero]
      rw [if_neg (by omega), if_neg (by omega), meant_R hn o3]
      simp [jobsG, gR, askAll, askN, List.range_succ]
theorem miss_R {n m : Nat} {O : Nat → Option (Nat × Nat)} {hs : List HV} (h : HsR n m O hs) (ho : OOK n O) (hn : n ≤ 12) (before : List GV) : missH before (ownR n) hs = none := by
  have q : ∀ (l : List HV), (∀ x ∈ l, missS before (ownR n) x.want = none) → missH before (ownR n) l = none := by
    intro l
    induction l with
    | nil => intro _; rfl
    | cons x r ih =>
      intro hx
      unfold missH
      rw [hx x (by simp)]
      exact ih (fun y hy => hx y (by simp [hy]))
  apply q
  intro x hx
  obtain ⟨k, hk, rfl⟩ := List.mem_iff_getElem.mp hx
  exact (want_R h ho hn before k hk).1
theorem waits_R {n m : Nat} {O : Nat → Option (Nat × Nat)} {hs : List HV} (h : HsR n m O hs) (ho : OOK n O) (hn : n ≤ 12) : waitsL (ownR n) hs = (List.range n).map fun k => (match O k with | none => [] | some x => [x.2]) := by
  apply List.ext_getElem
  · simp [waitsL, h.1]
  · intro k h1 h2
    simp [waitsL] at h1
    simp only [waitsL, List.getElem_map, List.getElem_range]
    exact (want_R h ho hn [] k h1).2.1

def cR (O : Nat → Option (Nat × Nat)) (i : Nat) : List UInt8 := match O i with
  | none => [0]
  | some x => [UInt8.ofNat x.1, UInt8.ofNat x.2]
def jsR (n : Nat) (O : Nat → Option (Nat × Nat)) : List PJ := (List.range n).map fun i => newJ (cR O i) 1 1
def p0R (N n : Nat) (O : Nat → Option (Nat × Nat)) : PS := ⟨ownR n, N, 0, jsR n O, []⟩
theorem take_R {N n m : Nat} {O : Nat → Option (Nat × Nat)} {hs : List HV} (h : HsR n m O hs) (ho : OOK n O) (hn : n ≤ 12) : takeF (newP N) (ownR n) hs = p0R N n O := by
  have q : ∀ k, k ≤ n → takeN (newP N) (ownR n) hs k = jsR k O := by
    intro k
    induction k with
    | zero => intro _; rfl
    | succ k ih =>
      intro hk
      have hkl : k < hs.length := by rw [h.1]; omega
      have e : hs.getD k hv0 = hs[k] := by simp [hkl]
      have e2 : (ownR n).getD k noG = gR k := by rw [List.getD_eq_getElem?_getD, ownR_get (by omega)]; rfl
      unfold takeN
      rw [ih (by omega), e, e2, (h.2 k hkl).nodes, (h.2 k hkl).time]
      have e3 : codeF (newP N).gs (ownR n) hs[k] = cR O k := (want_R h ho hn _ k hkl).2.2
      rw [e3]
      simp [jsR, List.range_succ, gR]
  unfold takeF p0R
  rw [h.1, q n (Nat.le_refl _)]
  rfl
theorem p0R_ok {N n : Nat} {O : Nat → Option (Nat × Nat)} (hN : N ≤ 8) (hn : n ≤ 12) : POK (p0R N n O) := by
  have hj : ∀ j ∈ jsR n O, j.st = 0 ∧ j.nd = 1 ∧ j.tm = 1 ∧ j.sa = -1 ∧ j.code.length ≤ 2 := by
    intro j hj
    obtain ⟨i, _, rfl⟩ := List.mem_map.mp hj
    refine ⟨rfl, rfl, rfl, rfl, ?_⟩
    show (cR O i).length ≤ 2
    unfold cR
    split <;> simp
  have hl : (jsR n O).length = n := by simp [jsR]
  refine ⟨⟨?_, by show (jsR n O).length ≤ 24; omega, hN, by show (0 : Int) ≤ 0; omega, by show (0 : Int) ≤ 5000; omega, ?_, ?_⟩, ⟨?_, ?_, ?_, ?_, ?_⟩⟩
  · intro j hj'
    obtain ⟨a, b, c, d, e⟩ := hj j hj'
    exact ⟨by omega, by omega, by omega, by omega, by omega⟩
  · intro j hj'
    obtain ⟨a, b, c, d, e⟩ := hj j hj'
    show j.sa ≤ 0 + _
    omega
  · intro j hj' q
    obtain ⟨a, b, c, d, e⟩ := hj j hj'
    unfold hasS at q
    rw [a] at q
    simp at q
  · intro i hi; simp [p0R] at hi
  · intro i hi; simp [p0R] at hi
  · simp [p0R]
  · intro i hi q
    exfalso
    change i < (jsR n O).length at hi
    change ((jsR n O).getD i pj0).st = 1 at q
    rw [getD_get hi, (hj _ (List.getElem_mem hi)).1] at q
    omega
  · simp [p0R]
end Go.Proofs.Ytanknpmojblmcab

/-
  What Submit and Cancel do with the heads of a ring.
-/
set_option linter.unusedSimpArgs false
set_option linter.unusedVariables false
namespace Go.Proofs.Ytanknpmojblmcab

theorem jnl_snoc (c : UInt8) : ∀ (l : List (List UInt8)) (x : List UInt8), l ≠ [] → jnl c (l ++ [x]) = jnl c l ++ ([c] ++ x) := by
  intro l x hl
  cases l with
  | nil => exact absurd rfl hl
  | cons w r =>
    show w ++ ptl c (r ++ [x]) = (w ++ ptl c r) ++ ([c] ++ x)
    rw [ptl_append]
    simp [ptl]
theorem circ_jnl (n s : Nat) (b op : Int) : ∀ m, circN n s b op m = jnl 10 ((List.range m).map fun i => linR i (circO n s b op i)) := by
  intro m
  induction m with
  | zero => rfl
  | succ m ih =>
    unfold circN
    rw [List.range_succ, List.map_append]
    by_cases h : m = 0
    · subst h
      rw [if_pos rfl]
      simp [jnl, ptl]
    · rw [if_neg h, ih]
      show _ = jnl 10 (_ ++ [linR m (circO n s b op m)])
      rw [jnl_snoc _ _ _ (by
        intro q
        have := congrArg List.length q
        simp at this
        omega)]
      simp
theorem circO_ok {n s : Nat} {b op : Int} (hn : 0 < n) : OOK n (circO n s b op) := by
  intro i x hx
  unfold circO at hx
  split at hx
  · simp at hx
  · simp at hx
    subst hx
    have h3 : (i + pickD b % 3) % 3 < 3 := Nat.mod_lt _ (by omega)
    refine ⟨?_, ?_, Nat.mod_lt _ hn⟩
    · show 1 ≤ opA i b; unfold opA; omega
    · show opA i b ≤ 3; unfold opA; omega
theorem circ_read {n s : Nat} {b op : Int} (h0 : 0 < n) (hn : n ≤ 12) : ∃ hs, readH (circN n s b op n) = (hs, (0, 0)) ∧ HsR n (circN n s b op n).length (circO n s b op) hs := by
  have hl := circN_len n s b op n
  obtain ⟨hs, e1, e2, e3⟩ := rg_read (L := circN n s b op n) (l := (List.range n).map fun i => (i, circO n s b op i)) (by rw [circ_jnl, List.map_map]; rfl) (by
    intro q
    have := congrArg List.length q
    simp at this
    omega) (by
    intro x hx
    obtain ⟨i, hi, rfl⟩ := List.mem_map.mp hx
    simp at hi
    refine ⟨by show i < 12; omega, fun y hy => ?_⟩
    obtain ⟨a, b', c⟩ := circO_ok (s := s) (b := b) (op := op) h0 i y hy
    exact ⟨a, b', by omega⟩) (by rw [List.map_map, show ((fun x : Nat × Option (Nat × Nat) => x.1) ∘ fun i => (i, circO n s b op i)) = id from rfl, List.map_id]; exact List.nodup_range) (by omega)
  refine ⟨hs, e1, by simpa using e2, ?_⟩
  intro k hk
  have hkn : k < n := by rw [e2] at hk; simpa using hk
  have q := e3 k (by simpa using hkn) hk
  simpa using q

theorem circ_ReadOK {n s : Nat} {b op : Int} (h0 : 0 < n) (hn : n ≤ 12) : ReadOK (circN n s b op n) := by
  obtain ⟨hs, e1, e2, e3⟩ := circ_read (s := s) (b := b) (op := op) h0 hn
  have hl := circN_len n s b op n
  refine ⟨by rw [e1]; show hs.length ≤ 100; omega, ?_, ?_⟩
  · rw [e1]
    intro x hx
    obtain ⟨k, hk, rfl⟩ := List.mem_iff_getElem.mp hx
    have q := e3 k hk
    obtain ⟨pos, p1, p2⟩ := q.want
    refine ⟨by rw [q.name]; simp [nmR], by rw [q.arr]; simp, by rw [q.hi]; omega, by rw [q.nodes]; omega, by rw [q.time]; omega, ?_, ?_⟩
    · rw [p2]; unfold wntR; split <;> simp
    · rw [p2]
      intro y hy
      unfold wntR at hy
      split at hy
      · simp at hy
      · rename_i x hx
        simp at hy
        subst hy
        obtain ⟨a, b', c⟩ := circO_ok (s := s) (b := b) (op := op) h0 k x hx
        exact ⟨by show x.1 ≤ 6; omega, by show 0 ≤ 100000; omega, by show pos ≤ 1000; omega⟩
  · rw [e1]
    intro x hx y hy
    obtain ⟨k, hk, rfl⟩ := List.mem_iff_getElem.mp hx
    obtain ⟨pos, p1, p2⟩ := (e3 k hk).want
    rw [p2] at hy
    unfold wntR at hy
    split at hy
    · simp at hy
    · rename_i x hx
      simp at hy
      subst hy
      exact (circO_ok (s := s) (b := b) (op := op) h0 k x hx).1

theorem circ_shut {n s N : Nat} {b : Int} (h0 : 0 < n) (hn : n ≤ 12) (hN : 1 ≤ N) (hs : s ≤ n) (hs1 : 1 ≤ s) (hc : cop s n = true ∨ s = 1) :
    ∃ a, a < n ∧ subF (newP N) (circN n s b (-1) n) = (newP N, (7, 0, 0, 0), (List.range n).map fun j => (a + j * s) % n) := by
  obtain ⟨hs', e1, e2⟩ := circ_read (s := s) (b := b) (op := -1) h0 hn
  have ho := circO_ok (s := s) (b := b) (op := -1) h0
  obtain ⟨a, ha, hr⟩ := circ_ring h0 hn hs hs1 hc
  refine ⟨a, ha, ?_⟩
  have hw : waitsL (ownR n) hs' = circW n s none := by
    rw [waits_R e2 ho hn]
    unfold circW
    apply List.map_congr_left
    intro i _
    have q : circO n s b (-1) i = some (opA i b, (i + s) % n) := by unfold circO; rw [if_neg (by omega)]
    rw [q, if_neg (by simp)]
  have hwd : wideF N hs' = none := wide_R hN hs' (fun h hh => by obtain ⟨k, hk, rfl⟩ := List.mem_iff_getElem.mp hh; exact (e2.2 k hk).nodes)
  have hg : grpF hs' 0 = ownR n := grpF_R e2
  have hms := miss_R e2 ho hn (newP N).gs
  have hne : (List.range n).map (fun j => (a + j * s) % n) ≠ [] := by
    intro q
    have := congrArg List.length q
    simp at this
    omega
  unfold subF
  rw [e1]
  dsimp only
  rw [if_neg (by simp), show (newP N).nodes = N from rfl, hwd]
  dsimp only
  rw [show (newP N).js.length = 0 from rfl, hg, hms]
  dsimp only
  rw [hw, hr, if_pos hne]
theorem circ_open {n s N z : Nat} {b : Int} (hz : z < n) (hn : n ≤ 12) (hN : 1 ≤ N) (hs : s ≤ n) (hs1 : 1 ≤ s) (hc : cop s n = true ∨ s = 1) :
    subF (newP N) (circN n s b (z : Int) n) = (settleF (p0R N n (circO n s b (z : Int))), (0, 0, 0, n), []) ∧ takeF (newP N) (grpF (readH (circN n s b (z : Int) n)).1 (newP N).js.length) (readH (circN n s b (z : Int) n)).1 = p0R N n (circO n s b (z : Int)) := by
  obtain ⟨hs', e1, e2⟩ := circ_read (s := s) (b := b) (op := (z : Int)) (by omega) hn
  have ho := circO_ok (s := s) (b := b) (op := (z : Int)) (show 0 < n by omega)
  have hw : waitsL (ownR n) hs' = circW n s (some z) := by
    rw [waits_R e2 ho hn]
    unfold circW
    apply List.map_congr_left
    intro i _
    by_cases e : i = z
    · subst e
      have q : circO n s b (i : Int) i = none := by unfold circO; rw [if_pos rfl]
      rw [q, if_pos rfl]
    · have q : circO n s b (z : Int) i = some (opA i b, (i + s) % n) := by unfold circO; rw [if_neg (by omega)]
      rw [q, if_neg (by simp; exact e)]
  have hwd : wideF N hs' = none := wide_R hN hs' (fun h hh => by obtain ⟨k, hk, rfl⟩ := List.mem_iff_getElem.mp hh; exact (e2.2 k hk).nodes)
  have hg : grpF hs' 0 = ownR n := grpF_R e2
  have hms := miss_R e2 ho hn (newP N).gs
  have hfr := circ_free hn hz hs hs1 hc
  have htk := take_R (N := N) e2 ho hn
  constructor
  · unfold subF
    rw [e1]
    dsimp only
    rw [if_neg (by simp), show (newP N).nodes = N from rfl, hwd]
    dsimp only
    rw [show (newP N).js.length = 0 from rfl, hg, hms]
    dsimp only
    rw [hw, hfr, if_neg (by simp), cnt_R, if_neg (by omega), htk]
  · rw [e1]
    dsimp only
    rw [show (newP N).js.length = 0 from rfl, hg, htk]

/-- The states of the jobs of a ring. -/
theorem jsR_len (n : Nat) (O : Nat → Option (Nat × Nat)) : (jsR n O).length = n := by simp [jsR]
theorem jsR_get {n i : Nat} {O : Nat → Option (Nat × Nat)} (h : i < n) : (jsR n O).getD i pj0 = newJ (cR O i) 1 1 := by simp [jsR, h]
/-- A list of jobs with the codes of a ring. -/
structure Rng (n : Nat) (O : Nat → Option (Nat × Nat)) (js : List PJ) : Prop where
  ln : js.length = n
  cd : ∀ i, i < n → (js.getD i pj0).code = cR O i
  st : ∀ i, i < n → (js.getD i pj0).st ≤ 6
theorem Rng.val {n : Nat} {O : Nat → Option (Nat × Nat)} {js : List PJ} (h : Rng n O js) (hn : n ≤ 12) (ho : OOK n O) (i : Nat) (hi : i < n) : valJ js i = (match O i with | none => 1 | some x => vP x.1 ((js.getD x.2 pj0).st : Int)) := by
  have ha : areS (stI js) = true := areS_st (by rw [h.ln]; omega) (fun j hj => by
    obtain ⟨k, hk, rfl⟩ := List.mem_iff_getElem.mp hj
    have := h.st k (by rw [h.ln] at hk; exact hk)
    rw [getD_get hk] at this
    exact this)
  have hl : (stI js).length = n := by simp [stI, h.ln]
  unfold valJ
  rw [h.cd i hi]
  unfold cR
  cases hO : O i with
  | none => exact run_true ha
  | some x =>
    obtain ⟨o1, o2, o3⟩ := ho i x hO
    show (runE [UInt8.ofNat x.1, UInt8.ofNat x.2] (stI js)).1 = _
    rw [run_ask ha o1 o2 (by omega) (by omega)]
    have e : (stI js).getD x.2 0 = ((js.getD x.2 pj0).st : Int) := by
      have : x.2 < js.length := by rw [h.ln]; exact o3
      simp [stI, this]
    rw [e]
theorem Rng.set {n : Nat} {O : Nat → Option (Nat × Nat)} {js : List PJ} (h : Rng n O js) {k : Nat} (hk : k < n) {x : PJ} (hc : x.code = (js.getD k pj0).code) (hs : x.st ≤ 6) : Rng n O (js.set k x) := by
  have hk' : k < js.length := by rw [h.ln]; exact hk
  refine ⟨by simpa using h.ln, ?_, ?_⟩
  · intro i hi
    rw [getD_set hk']
    split
    · rename_i e; subst e; rw [hc]; exact h.cd i hi
    · exact h.cd i hi
  · intro i hi
    rw [getD_set hk']
    split
    · exact hs
    · exact h.st i hi
theorem vP_low {op : Nat} {s : Int} (h : s < 3) : vP op s = 0 := by unfold vP; rw [if_pos h]
theorem held_iff (js : List PJ) (i v : Nat) : heldB js i v = true ↔ (js.getD i pj0).st = 0 ∧ valJ js i = v := by
  unfold heldB; simp
theorem held_no {js : List PJ} {i v : Nat} (h : ¬ ((js.getD i pj0).st = 0 ∧ valJ js i = v)) : heldB js i v = false := by
  cases hh : heldB js i v with
  | false => rfl
  | true => exact absurd ((held_iff js i v).mp hh) h

def p1R (N n z : Nat) (O : Nat → Option (Nat × Nat)) : PS := ⟨ownR n, N, 0, (jsR n O).set z (runJ (newJ (cR O z) 1 1) 0), []⟩
theorem open_settles {N n z : Nat} {O : Nat → Option (Nat × Nat)} (hn : n ≤ 12) (hz : z < n) (ho : OOK n O) (hO : ∀ i, O i = none ↔ i = z) : settleF (p0R N n O) = p1R N n z O := by
  have hR : Rng n O (jsR n O) := ⟨jsR_len n O, fun i hi => by rw [jsR_get hi]; rfl, fun i hi => by rw [jsR_get hi]; exact Nat.zero_le _⟩
  have h0 : ∀ i, i < n → ((jsR n O).getD i pj0).st = 0 := fun i hi => by rw [jsR_get hi]; rfl
  have hv : ∀ i, i < n → i ≠ z → valJ (jsR n O) i = 0 := by
    intro i hi hne
    rw [hR.val hn ho i hi]
    cases h : O i with
    | none => exact absurd ((hO i).mp h) hne
    | some x => dsimp only; rw [h0 x.2 (ho i x h).2.2]; exact vP_low (by decide)
  have hvz : valJ (jsR n O) z = 1 := by rw [hR.val hn ho z hz, (hO z).mpr rfl]
  have hR2 : Rng n O ((jsR n O).set z ((((jsR n O).getD z pj0).toSt 1).toSa 0)) := hR.set hz rfl (by show 1 ≤ 6; omega)
  have hzl : z < (jsR n O).length := by rw [jsR_len]; exact hz
  have key := settle_one (p := p0R N n O) rfl (by
    intro i
    show hasS ((jsR n O).getD i pj0) = false
    by_cases hi : i < n
    · unfold hasS; rw [h0 i hi]; rfl
    · have e : (jsR n O).getD i pj0 = pj0 := by simp [jsR, hi]
      rw [e]; rfl) (by
    intro i hi
    change i < (jsR n O).length at hi
    rw [jsR_len] at hi
    apply held_no
    rintro ⟨_, q⟩
    change valJ (jsR n O) i = 2 at q
    by_cases e : i = z
    · rw [e, hvz] at q; omega
    · rw [hv i hi e] at q; omega) z hzl ((held_iff _ _ _).mpr ⟨h0 z hz, hvz⟩) (by
    intro i hi hne
    change i < (jsR n O).length at hi
    rw [jsR_len] at hi
    constructor
    · apply held_no
      rintro ⟨_, q⟩
      change valJ (jsR n O) i = 1 at q
      rw [hv i hi hne] at q; omega
    · apply held_no
      rintro ⟨_, q⟩
      change valJ ((jsR n O).set z ((((jsR n O).getD z pj0).toSt 1).toSa 0)) i = 1 at q
      rw [hR2.val hn ho i hi] at q
      cases h : O i with
      | none => exact absurd ((hO i).mp h) hne
      | some x =>
        rw [h] at q
        dsimp only at q
        rw [vP_low] at q
        · omega
        · rw [getD_set hzl]
          split
          · show (1 : Int) < 3; omega
          · rw [h0 x.2 (ho i x h).2.2]; decide)
  rw [key]
  unfold p0R p1R
  dsimp only
  rw [jsR_get hz]
end Go.Proofs.Ytanknpmojblmcab

/-
  What becomes of a ring whose open head is cancelled.
-/
set_option linter.unusedSimpArgs false
set_option linter.unusedVariables false
namespace Go.Proofs.Ytanknpmojblmcab

def nextR (n s z : Nat) : Nat := (z + n - s % n) % n
theorem next_iff {n s z i : Nat} (hz : z < n) (hi : i < n) : (i + s) % n = z ↔ i = nextR n s z := by
  unfold nextR
  rw [← Nat.add_mod_mod]
  have ht : s % n < n := Nat.mod_lt _ (by omega)
  generalize s % n = t at *
  have e1 : (i + t) % n = if i + t < n then i + t else i + t - n := by
    split
    · exact Nat.mod_eq_of_lt (by assumption)
    · rw [Nat.mod_eq_sub_mod (by omega), Nat.mod_eq_of_lt (by omega)]
  have e2 : (z + n - t) % n = if z < t then z + n - t else z - t := by
    split
    · exact Nat.mod_eq_of_lt (by omega)
    · rw [show z + n - t = (z - t) + n from by omega, Nat.add_mod_right, Nat.mod_eq_of_lt (by omega)]
  rw [e1, e2]
  split <;> split <;> omega
theorem next_lt {n s z : Nat} (hn : 0 < n) : nextR n s z < n := Nat.mod_lt _ hn

def eR (O : Nat → Option (Nat × Nat)) (z : Nat) : PJ := ((runJ (newJ (cR O z) 1 1) 0).toSt 5).toEn 0
def p2R (N n z : Nat) (O : Nat → Option (Nat × Nat)) : PS := ⟨ownR n, N, 0, (jsR n O).set z (eR O z), []⟩
theorem cancel_to {N n z : Nat} {O : Nat → Option (Nat × Nat)} (hz : z < n) : cancelF (p1R N n z O) (z : Int) = (settleF (p2R N n z O), 0) := by
  have hzl : z < (jsR n O).length := by rw [jsR_len]; exact hz
  have hh : hasP (p1R N n z O) (z : Int) = true := by
    unfold hasP p1R
    simp [jsR_len]
    omega
  have hg : (p1R N n z O).js.getD z pj0 = runJ (newJ (cR O z) 1 1) 0 := by
    show ((jsR n O).set z _).getD z pj0 = _
    rw [getD_set hzl, if_pos rfl]
  have hst : ((p1R N n z O).js.getD z pj0).st = 2 := by rw [hg]; rfl
  unfold cancelF
  rw [if_neg (by rw [hh]; decide), Int.toNat_natCast, if_neg (by rw [hst]; omega), if_neg (by rw [hst]; omega)]
  unfold endP p2R PS.withJ
  rw [hg]
  show (settleF ⟨ownR n, N, 0, ((jsR n O).set z (runJ (newJ (cR O z) 1 1) 0)).set z _, []⟩, 0) = _
  rw [List.set_set]
  rfl

theorem cancel_R {N n s z : Nat} {b : Int} (hn : n ≤ 12) (hz : z < n) (hs : s ≤ n) (hs1 : 1 ≤ s) (hc : cop s n = true ∨ s = 1) :
    (settleF (p2R N n z (circO n s b (z : Int)))).js.length = n ∧ ∀ i, i < n → ((settleF (p2R N n z (circO n s b (z : Int)))).js.getD i pj0).st = (if i = z then 5 else if opA (nextR n s z) b = 1 then 6 else if i = nextR n s z then 2 else 0) := by
  have h0n : 0 < n := by omega
  generalize hOO : circO n s b (z : Int) = O
  have ho : OOK n O := by rw [← hOO]; exact circO_ok h0n
  have hOs : ∀ i, i ≠ z → O i = some (opA i b, (i + s) % n) := by
    intro i hne
    rw [← hOO]; unfold circO; rw [if_neg (by omega)]
  have hzl : z < (jsR n O).length := by rw [jsR_len]; exact hz
  have hR0 : Rng n O (jsR n O) := ⟨jsR_len n O, fun i hi => by rw [jsR_get hi]; rfl, fun i hi => by rw [jsR_get hi]; exact Nat.zero_le _⟩
  have hR : Rng n O (p2R N n z O).js := hR0.set hz (by rw [jsR_get hz]; rfl) (by show 5 ≤ 6; omega)
  have hget : ∀ i, (p2R N n z O).js.getD i pj0 = if i = z then eR O z else (jsR n O).getD i pj0 := fun i => getD_set hzl
  have hlen : (p2R N n z O).js.length = n := hR.ln
  have h5 : ((p2R N n z O).js.getD z pj0).st = 5 := by rw [hget, if_pos rfl]; rfl
  have h0 : ∀ i, i < n → i ≠ z → ((p2R N n z O).js.getD i pj0).st = 0 := by
    intro i hi hne
    rw [hget, if_neg hne, jsR_get hi]; rfl
  have hop : ∀ i, 1 ≤ opA i b ∧ opA i b ≤ 3 := by
    intro i
    have : (i + pickD b % 3) % 3 < 3 := Nat.mod_lt _ (by omega)
    unfold opA; omega
  by_cases hnv : opA (nextR n s z) b = 1
  · -- all others give up
    obtain ⟨⟨g1, g2⟩, g3⟩ := giveUp_spec (p2R N n z O)
    have hX : Rng n O (giveUpF (p2R N n z O)).js := by
      refine ⟨by rw [g1]; exact hlen, ?_, ?_⟩
      · intro i hi
        rcases g2 i with q | ⟨_, q⟩
        · rw [q]; exact hR.cd i hi
        · rw [q]; exact hR.cd i hi
      · intro i hi
        rcases g2 i with q | ⟨_, q⟩
        · rw [q]; exact hR.st i hi
        · rw [q]; show 6 ≤ 6; omega
    have hXz : ((giveUpF (p2R N n z O)).js.getD z pj0).st = 5 := by
      rcases g2 z with q | ⟨q, _⟩
      · rw [q]; exact h5
      · rw [h5] at q; omega
    have gone : ∀ i, i < n → i ≠ z → valJ (giveUpF (p2R N n z O)).js i = 2 → ((giveUpF (p2R N n z O)).js.getD i pj0).st = 6 := by
      intro i hi hne hv
      rcases g2 i with q | ⟨_, q⟩
      · exfalso
        have hh := g3 i (by rw [hlen]; exact hi)
        have : heldB (giveUpF (p2R N n z O)).js i 2 = true := (held_iff _ _ _).mpr ⟨by rw [q]; exact h0 i hi hne, hv⟩
        rw [this] at hh
        exact absurd hh (by decide)
      · rw [q]; rfl
    have all : ∀ d i, i < n → i ≠ z → (i + d * s) % n = z → ((giveUpF (p2R N n z O)).js.getD i pj0).st = 6 := by
      intro d
      induction d with
      | zero =>
        intro i hi hne h
        rw [Nat.zero_mul, Nat.add_zero, Nat.mod_eq_of_lt hi] at h
        exact absurd h hne
      | succ d ih =>
        intro i hi hne h
        apply gone i hi hne
        rw [hX.val hn ho i hi, hOs i hne]
        dsimp only
        by_cases e : (i + s) % n = z
        · have hin := (next_iff hz hi).mp e
          rw [e, hXz, hin, hnv]
          rfl
        · have hj : (i + s) % n < n := Nat.mod_lt _ h0n
          have q := ih ((i + s) % n) hj e (by
            rw [Nat.mod_add_mod, Nat.add_assoc, show s + d * s = (d + 1) * s from by rw [Nat.add_mul, Nat.one_mul]; omega]
            exact h)
          rw [q]
          have := hop i
          have : opA i b = 1 ∨ opA i b = 2 ∨ opA i b = 3 := by omega
          rcases this with r | r | r <;> rw [r] <;> rfl
    have h6 : ∀ i, i < n → i ≠ z → ((giveUpF (p2R N n z O)).js.getD i pj0).st = 6 := by
      intro i hi hne
      obtain ⟨d, _, hd⟩ := cop_all n hn h0n s hs hs1 hc i hi z hz
      exact all d i hi hne hd
    have hset := settle_none (p := p2R N n z O) rfl (by
      intro i hi
      rw [hlen] at hi
      apply held_no
      rintro ⟨q, _⟩
      by_cases e : i = z
      · rw [e, hXz] at q; omega
      · rw [h6 i hi e] at q; omega)
    rw [hset]
    refine ⟨by rw [g1]; exact hlen, fun i hi => ?_⟩
    by_cases e : i = z
    · rw [if_pos e, e]; exact hXz
    · rw [if_neg e, if_pos hnv]; exact h6 i hi e
  · -- the next one runs
    have hv : ∀ (js : List PJ), Rng n O js → (∀ k, k < n → k ≠ z → (js.getD k pj0).st < 3) → ∀ i, i < n → i ≠ z → i ≠ nextR n s z → valJ js i = 0 := by
      intro js hj hk i hi hne hnn
      rw [hj.val hn ho i hi, hOs i hne]
      dsimp only
      apply vP_low
      have := hk ((i + s) % n) (Nat.mod_lt _ h0n) (fun e => hnn ((next_iff hz hi).mp e))
      omega
    by_cases hnz : nextR n s z = z
    · -- one head alone
      have h2 : ∀ i, i < (p2R N n z O).js.length → heldB (p2R N n z O).js i 2 = false := by
        intro i hi
        rw [hlen] at hi
        apply held_no
        rintro ⟨q1, q2⟩
        by_cases e : i = z
        · rw [e, h5] at q1; omega
        · rw [hv _ hR (fun k hk hkz => by rw [h0 k hk hkz]; omega) i hi e (by rw [hnz]; exact e)] at q2; omega
      have hg := giveUp_id h2
      have hset := settle_none (p := p2R N n z O) rfl (by
        rw [hg]
        intro i hi
        rw [hlen] at hi
        apply held_no
        rintro ⟨q1, q2⟩
        by_cases e : i = z
        · rw [e, h5] at q1; omega
        · rw [hv _ hR (fun k hk hkz => by rw [h0 k hk hkz]; omega) i hi e (by rw [hnz]; exact e)] at q2; omega)
      rw [hset, hg]
      refine ⟨hlen, fun i hi => ?_⟩
      by_cases e : i = z
      · rw [if_pos e, e]; exact h5
      · rw [if_neg e, if_neg hnv, if_neg (by rw [hnz]; exact e)]; exact h0 i hi e
    · have hml : nextR n s z < n := next_lt h0n
      have hvm : valJ (p2R N n z O).js (nextR n s z) = 1 := by
        rw [hR.val hn ho _ hml, hOs _ hnz]
        dsimp only
        rw [(next_iff hz hml).mpr rfl, h5]
        have := hop (nextR n s z)
        have : opA (nextR n s z) b = 2 ∨ opA (nextR n s z) b = 3 := by omega
        rcases this with r | r <;> rw [r] <;> rfl
      have hR2 : Rng n O ((p2R N n z O).js.set (nextR n s z) ((((p2R N n z O).js.getD (nextR n s z) pj0).toSt 1).toSa 0)) := hR.set hml rfl (by show 1 ≤ 6; omega)
      have key := settle_one (p := p2R N n z O) rfl (by
        intro i
        by_cases hi : i < n
        · by_cases e : i = z
          · unfold hasS; rw [e, h5]; rfl
          · unfold hasS; rw [h0 i hi e]; rfl
        · have e : (p2R N n z O).js.getD i pj0 = pj0 := by
            rw [List.getD_eq_getElem?_getD, List.getElem?_eq_none (by rw [hlen]; omega)]; rfl
          rw [e]; rfl) (by
        intro i hi
        rw [hlen] at hi
        apply held_no
        rintro ⟨q1, q2⟩
        by_cases e : i = z
        · rw [e, h5] at q1; omega
        · by_cases e2 : i = nextR n s z
          · rw [e2, hvm] at q2; omega
          · rw [hv _ hR (fun k hk hkz => by rw [h0 k hk hkz]; omega) i hi e e2] at q2; omega) (nextR n s z) (by rw [hlen]; exact hml) ((held_iff _ _ _).mpr ⟨h0 _ hml hnz, hvm⟩) (by
        intro i hi hne
        rw [hlen] at hi
        constructor
        · apply held_no
          rintro ⟨q1, q2⟩
          by_cases e : i = z
          · rw [e, h5] at q1; omega
          · rw [hv _ hR (fun k hk hkz => by rw [h0 k hk hkz]; omega) i hi e hne] at q2; omega
        · apply held_no
          rintro ⟨q1, q2⟩
          by_cases e : i = z
          · rw [getD_set (by rw [hlen]; exact hml), if_neg hne, e, h5] at q1; omega
          · have q3 := hv _ hR2 (fun k hk hkz => by
              rw [getD_set (by rw [hlen]; exact hml)]
              split
              · show 1 < 3; omega
              · rw [h0 k hk hkz]; omega) i hi e hne
            have q4 : valJ ((p2R N n z O).js.set (nextR n s z) ((((p2R N n z O).js.getD (nextR n s z) pj0).toSt 1).toSa 0)) i = 1 := q2
            rw [q3] at q4
            omega)
      rw [key]
      refine ⟨by show ((p2R N n z O).js.set _ _).length = n; simpa using hlen, fun i hi => ?_⟩
      show (((p2R N n z O).js.set (nextR n s z) _).getD i pj0).st = _
      rw [getD_set (by rw [hlen]; exact hml)]
      by_cases e : i = z
      · rw [if_neg (by rw [e]; exact fun q => hnz q.symm), if_pos e, e]; exact h5
      · rw [if_neg e, if_neg hnv]
        by_cases e2 : i = nextR n s z
        · rw [if_pos e2, if_pos e2]; rfl
        · rw [if_neg e2, if_neg e2]; exact h0 i hi e
end Go.Proofs.Ytanknpmojblmcab

/-
  Ring: what Submit and Cancel answer.
-/
set_option linter.unusedSimpArgs false
set_option linter.unusedVariables false
namespace Go.Proofs.Ytanknpmojblmcab
open Go.RowKit

variable {D : Nat → Prop} {gv jv qv : Value} {w w' : World}

theorem Hid.mk' {p : Prop} (h : p) : Hid p := h
theorem below_keep {D2 : Nat → Prop} {x y z : World} {B : Nat} (h : Below B x y) (k : Keep D2 y z) (hd : ∀ j, D2 j → B ≤ j) : Below B x z :=
  ⟨k.os.trans h.os, k.tape.trans h.tape, k.output.trans h.output, Nat.le_trans h.size k.size, fun j hj => (k.block j (fun q => by have := hd j q; omega)).trans (h.block j hj)⟩
theorem below_set5 {x y : World} {B rb : Nat} (h : Below B x y) (hr : B ≤ rb) (a0 a1 a2 a3 a4 : Value) :
    Below B x (((((y.setCell ⟨rb, 0, none⟩ a0).setCell ⟨rb, 1, none⟩ a1).setCell ⟨rb, 2, none⟩ a2).setCell ⟨rb, 3, none⟩ a3).setCell ⟨rb, 4, none⟩ a4) :=
  ((((h.setCell (p := ⟨rb, 0, none⟩) hr _).setCell (p := ⟨rb, 1, none⟩) hr _).setCell (p := ⟨rb, 2, none⟩) hr _).setCell (p := ⟨rb, 3, none⟩) hr _).setCell (p := ⟨rb, 4, none⟩) hr _
theorem WoR.set5 {bw sy N kb rb : Nat} {y : World} (h : WoR bw sy N kb y) (hne : rb ≠ bw) (a0 a1 a2 a3 a4 : Value) :
    WoR bw sy N kb (((((y.setCell ⟨rb, 0, none⟩ a0).setCell ⟨rb, 1, none⟩ a1).setCell ⟨rb, 2, none⟩ a2).setCell ⟨rb, 3, none⟩ a3).setCell ⟨rb, 4, none⟩ a4) :=
  whole_set_ne (whole_set_ne (whole_set_ne (whole_set_ne (whole_set_ne h ⟨rb, 0, none⟩ hne _) ⟨rb, 1, none⟩ hne _) ⟨rb, 2, none⟩ hne _) ⟨rb, 3, none⟩ hne _) ⟨rb, 4, none⟩ hne _
theorem newP_gs (N : Nat) : GsOK (newP N) := ⟨fun g hg => by simp [newP] at hg, rfl⟩

theorem sub_shut {sy N n s : Nat} {b : Int} (h : SM D sy (newP N) gv jv qv w) (h0 : 0 < n) (hn : n ≤ 12) (hN : 1 ≤ N) (hN8 : N ≤ 8) (hs : s ≤ n) (hs1 : 1 ≤ s) (hc : cop s n = true ∨ s = 1) :
    Calls Try.prog 7 #[.pointer (some ⟨sy, 0, none⟩), .string (bs (circN n s b (-1) n))] w fun e w' => ∃ (a : Nat) (l : List Nat) (ra : Option Addr) (rc : Nat), a < n ∧ l = ((List.range n).map fun j => (a + j * s) % n) ∧ e = .returned (.agg #[.int .i64 7, .int .i64 0, .int .i64 0, .int .i64 0, .slice ra l.length rc]) ∧ w'.ownsRow w.heap.size 3 1 (.slice ra l.length rc) l.length (l.map iV) ∧ Below w.heap.size w w' := by
  obtain ⟨a, ha, hsf⟩ := circ_shut (N := N) (b := b) h0 hn hN hs hs1 hc
  have hl := circN_len n s b (-1) n
  have hbl : (bs (circN n s b (-1) n)).data.toList = circN n s b (-1) n := bs_list _
  have hro : ReadOK (bs (circN n s b (-1) n)).data.toList := by rw [hbl]; exact circ_ReadOK h0 hn
  obtain ⟨hs', e1, e2⟩ := circ_read (s := s) (b := b) (op := -1) h0 hn
  refine (sySubmit (bs (circN n s b (-1) n)) h (newP_ok hN8) (newP_gs N) hro (by rw [bs_size]; unfold maxLen; omega) (by
    rw [hbl, e1]
    intro own hs q1 q2 _
    dsimp only at q1 q2
    rw [q1, q2, show (newP N).js.length = 0 from rfl, grpF_R e2, take_R e2 (circO_ok h0) hn]
    exact p0R_ok hN8 hn)).mono ?_
  rintro e w1 ⟨rv, he, hd⟩
  rw [hbl, hsf] at he hd
  dsimp only at he hd
  have hne : (List.range n).map (fun j => (a + j * s) % n) ≠ [] := by
    intro q
    have := congrArg List.length q
    simp at this
    omega
  rcases hd with ⟨_, hB, hrow⟩ | ⟨_, q, _⟩
  · obtain ⟨ra, rc, rfl⟩ := row_formL hrow
    exact ⟨a, _, ra, rc, ha, rfl, he, hrow, hB⟩
  · exact absurd q hne

theorem sub_open {sy N n s z : Nat} {b : Int} (h : SM D sy (newP N) gv jv qv w) (hz : z < n) (hn : n ≤ 12) (hN : 1 ≤ N) (hN8 : N ≤ 8) (hs : s ≤ n) (hs1 : 1 ≤ s) (hc : cop s n = true ∨ s = 1) :
    Calls Try.prog 7 #[.pointer (some ⟨sy, 0, none⟩), .string (bs (circN n s b (z : Int) n))] w fun e w' => e = .returned (.agg #[.int .i64 0, .int .i64 0, .int .i64 0, .int .i64 (n : Int), .slice none 0 0]) ∧ (∃ gv' jv' qv', SM D sy (p1R N n z (circO n s b (z : Int))) gv' jv' qv' w') ∧ Keep D w w' := by
  have h0 : 0 < n := by omega
  have ho := circO_ok (s := s) (b := b) (op := (z : Int)) h0
  obtain ⟨hsf, htk⟩ := circ_open (N := N) (b := b) hz hn hN hs hs1 hc
  have hO : ∀ i, circO n s b (z : Int) i = none ↔ i = z := by
    intro i
    unfold circO
    split
    · rename_i q; exact ⟨fun _ => by omega, fun _ => rfl⟩
    · rename_i q; exact ⟨fun r => by simp at r, fun r => absurd (by rw [r]) q⟩
  have hset := open_settles (N := N) hn hz ho hO
  have hl := circN_len n s b (z : Int) n
  have hbl : (bs (circN n s b (z : Int) n)).data.toList = circN n s b (z : Int) n := bs_list _
  have hro : ReadOK (bs (circN n s b (z : Int) n)).data.toList := by rw [hbl]; exact circ_ReadOK h0 hn
  refine (sySubmit (bs (circN n s b (z : Int) n)) h (newP_ok hN8) (newP_gs N) hro (by rw [bs_size]; unfold maxLen; omega) (by
    rw [hbl]
    intro own hs q1 q2 _
    rw [q1, q2, htk]
    exact p0R_ok hN8 hn)).mono ?_
  rintro e w1 ⟨rv, he, hd⟩
  rw [hbl, hsf, hset] at he hd
  dsimp only at he hd
  rcases hd with ⟨q, _, _⟩ | ⟨rfl, _, hS, hK⟩
  · exfalso
    have := congrArg (fun p => p.js.length) q
    simp [p1R, newP, jsR_len] at this
    omega
  · exact ⟨he, hS, hK⟩

theorem p1R_ok {N n s z : Nat} {b : Int} (hN8 : N ≤ 8) (hn : n ≤ 12) (hz : z < n) : POK (p1R N n z (circO n s b (z : Int))) := by
  have h0 : 0 < n := by omega
  have hO : ∀ i, circO n s b (z : Int) i = none ↔ i = z := by
    intro i
    unfold circO
    split
    · rename_i q; exact ⟨fun _ => by omega, fun _ => rfl⟩
    · rename_i q; exact ⟨fun r => by simp at r, fun r => absurd (by rw [r]) q⟩
  rw [← open_settles (N := N) hn hz (circO_ok h0) hO]
  exact settleF_ok (p0R_ok hN8 hn)
theorem p1R_st {N n s z : Nat} {b : Int} (hz : z < n) : (p1R N n z (circO n s b (z : Int))).js.length = n ∧ ∀ i, i < n → ((p1R N n z (circO n s b (z : Int))).js.getD i pj0).st = if i = z then 2 else 0 := by
  have hzl : z < (jsR n (circO n s b (z : Int))).length := by rw [jsR_len]; exact hz
  refine ⟨by show ((jsR n _).set z _).length = n; simp [jsR_len], fun i hi => ?_⟩
  show (((jsR n (circO n s b (z : Int))).set z _).getD i pj0).st = _
  rw [getD_set hzl]
  by_cases e : i = z
  · rw [if_pos e, if_pos e]; rfl
  · rw [if_neg e, if_neg e, jsR_get hi]; rfl
theorem can_R {sy N n s z : Nat} {b : Int} (h : SM D sy (p1R N n z (circO n s b (z : Int))) gv jv qv w) (hz : z < n) (hn : n ≤ 12) (hN8 : N ≤ 8) :
    Calls Try.prog 11 #[.pointer (some ⟨sy, 0, none⟩), .int .i64 (z : Int)] w fun e w' => e = .returned (.int .i64 0) ∧ (∃ qv', SM D sy (settleF (p2R N n z (circO n s b (z : Int)))) gv jv qv' w') ∧ Keep D w w' := by
  refine (syCancel h (p1R_ok hN8 hn hz) (z : Int)).mono ?_
  rintro e w1 ⟨he, hS, hK⟩
  rw [cancel_to hz] at he hS
  exact ⟨he, hS, hK⟩
theorem ring_next {n s a : Nat} (h0 : 0 < n) (hn : n ≤ 12) (ha : a < n) (l : List Nat) (hl : l = ((List.range n).map fun j => (a + j * s) % n)) : l.length = n ∧ ∀ i, i < n → l.getD i 0 < n ∧ l.getD ((i + 1) % n) 0 = (l.getD i 0 + s % n) % n := by
  subst hl
  refine ⟨by simp, fun i hi => ?_⟩
  have hm : (i + 1) % n < n := Nat.mod_lt _ h0
  have e1 : ((List.range n).map fun j => (a + j * s) % n).getD i 0 = (a + i * s) % n := by simp [hi]
  have e2 : ((List.range n).map fun j => (a + j * s) % n).getD ((i + 1) % n) 0 = (a + ((i + 1) % n) * s) % n := by simp [hm]
  rw [e1, e2]
  refine ⟨Nat.mod_lt _ h0, ?_⟩
  rw [← Nat.add_mod, Nat.add_assoc, show i * s + s = (i + 1) * s from by rw [Nat.add_mul, Nat.one_mul]]
  rw [Nat.add_mod, Nat.mod_mul_mod, ← Nat.add_mod]
end Go.Proofs.Ytanknpmojblmcab

/-
  The statement on Ring out of its walk.
-/
set_option linter.unusedSimpArgs false
set_option linter.unusedVariables false
namespace Go.Proofs.Ytanknpmojblmcab
open Go.ChangeShapes Go.WideShapes Go.ChangeAt Go.RowKit

theorem Try.own : ownKnob Try.prog.godebug = none := by kernel_rfl
theorem Try.laidOut : laidOutB Try.prog = true := by kernel_rfl

def RingWalk : Prop := ∀ (a b c : Int), -9223372036854775808 ≤ a → a ≤ 9223372036854775807 → -9223372036854775808 ≤ b → b ≤ 9223372036854775807 → -9223372036854775808 ≤ c → c ≤ 9223372036854775807 → ∀ w : World,
    Calls Try.prog 3 #[.int .i64 a, .int .i64 b, .int .i64 c] w fun e w' => e = .returned (.bool true) ∧ Below w.heap.size w w'

set_option maxRecDepth 100000 in
theorem liftedR (walk : RingWalk) (os : Os) (started : os.Started) (H : Type) (enc : TypeId × Value → H) :
    ReturnsInHanded {} Try.checked os 3 .any (Rows.ringSpec.pre6 enc Try.prog Try.f3 Rows.ringRow.domain false) (Rows.ringSpec.post enc Try.prog Try.f3 false true false false) := by
  refine returnsInHanded_of_change (C := Try.checked) Try.own started (by kernel_rfl) Try.func3
    (ChangeSpec.witness6 (enc := enc) (C := Try.checked) false ⟨#[], #[.int .i64 0, .int .i64 0, .int .i64 0], []⟩ 8 (by kernel_rfl) (by kernel_rfl) (by kernel_rfl) (by kernel_rfl)) ?_
  intro W base args ds gs before hval0 hW hcnd _
  have hval : ∀ (j : Nat) t v, Try.f3.params[j]? = some t → args[j]? = some v → Value.okWide Try.prog W .any base t v := hval0
  have hW' := hW
  obtain ⟨p, q, hA0, hV, rfl, hfz, hnd⟩ := hW
  have hA : DataW.TrodAll enc Try.prog W 0 (fun _ => true) true Try.f3.params.toList args.toList ds p := hA0
  rw [Try.params3] at hA hval
  obtain ⟨v0, vs0, d0, ds0, p0, q0, hargs, rfl, rfl, h0, r0⟩ := trodAll_cons hA
  obtain ⟨v1, vs1, d1, ds1, p1, q1, rfl, rfl, rfl, h1, r1⟩ := trodAll_cons r0
  obtain ⟨v2, vs2, d2, ds2, p2, q2, rfl, rfl, rfl, h2, r2⟩ := trodAll_cons r1
  obtain ⟨rfl, rfl, rfl⟩ := trodAll_nil r2
  obtain rfl : args = #[v0, v1, v2] := by cases args; simp_all
  obtain ⟨rfl, rfl⟩ := trodVars_none hV
  obtain ⟨a, rfl, rfl, rfl, ha⟩ := open_int Try.underlying3 (hval 0 3 v0 rfl rfl) h0
  obtain ⟨b, rfl, rfl, rfl, hb⟩ := open_int Try.underlying3 (hval 1 3 v1 rfl rfl) h1
  obtain ⟨c, rfl, rfl, rfl, hc⟩ := open_int Try.underlying3 (hval 2 3 v2 rfl rfl) h2
  clear hA0 hval0
  refine (walk a b c (bounds_i64 ha).1 (bounds_i64 ha).2 (bounds_i64 hb).1 (bounds_i64 hb).2 (bounds_i64 hc).1 (bounds_i64 hc).2 W).mono fun e W' ⟨he, bel⟩ => ?_
  subst he
  exact ⟨_, rfl, _, _, _, [], _, [], hW', trodAll_mk1 (shut_bool Try.underlying4 _), trodAll_mk3 (shut_int Try.underlying3 ha) (shut_int Try.underlying3 hb) (shut_int Try.underlying3 hc), rfl, bel.frame _, fun h => by cases h⟩

theorem ring_over (walk : RingWalk) : Rows.RingSaid :=
  OpenClaim.holds_of_wide 3 Try.f3 rfl rfl rfl rfl rfl rfl rfl ⟨rfl, rfl, rfl, rfl, rfl⟩ rfl rfl rfl rfl rfl (by kernel_rfl) Try.func3 (by kernel_rfl)
    (of_decide_eq_true (by kernel_rfl)) (by unfold Func.isWrapper; first | (rw [if_pos (by decide +kernel)]; kernel_rfl) | (rw [if_neg (by decide +kernel)]; exact ⟨rfl, rfl⟩))
    (fun os started H enc _ => liftedR walk os started H enc)
end Go.Proofs.Ytanknpmojblmcab
