/-
  PlV PlW BkR BkS BkT BkU PkA BkV BkW, put together.
-/
import Derived.Test.YtanknpmojblmcaaGreatDoorGa2
import Derived.Test.YtanknpmojblmcaaGreatDoorGb2
import Derived.Test.YtanknpmojblmcaaGreatDoorGa3
import Derived.Test.YtanknpmojblmcaaGreatDoorLkB
/-
  Settling, on lists: jobs fit together, none begins later than told.
-/
set_option linter.unusedSimpArgs false
set_option linter.unusedVariables false
namespace Go.Proofs.YtanknpmojblmcaaGreatDoor

/-- What a job wants at the time m. -/
def wnA (m : Int) (j : PJ) : Nat := if wantsAt j m = true then j.nd else 0
def totL (js : List PJ) (m : Int) : Nat := (js.map (wnA m)).sum

theorem sum_take (f : PJ → Nat) (js : List PJ) : ∀ n, n < js.length → ((js.take (n + 1)).map f).sum = ((js.take n).map f).sum + f (js.getD n pj0) := by
  intro n hn
  rw [List.take_add_one, List.map_append, List.sum_append, List.getElem?_eq_getElem hn]
  have e : js.getD n pj0 = js[n] := by simp [hn]
  rw [e]
  simp

theorem want_tot (js : List PJ) (id : Nat) (m : Int) : ∀ n, n ≤ js.length → wantN js id m n + (if id < n then wnA m (js.getD id pj0) else 0) = (js.getD id pj0).nd + ((js.take n).map (wnA m)).sum := by
  intro n
  induction n with
  | zero => intro _; simp [wantN]
  | succ n ih =>
    intro hn
    have h1 := ih (by omega)
    rw [sum_take _ _ _ (by omega)]
    unfold wantN
    by_cases e : n = id
    · subst e
      rw [if_neg (by simp)]
      rw [if_neg (by omega)] at h1
      rw [if_pos (by omega)]
      omega
    · have e1 : (if id < n + 1 then wnA m (js.getD id pj0) else 0) = (if id < n then wnA m (js.getD id pj0) else 0) := by
        by_cases q : id < n
        · rw [if_pos q, if_pos (by omega)]
        · rw [if_neg q, if_neg (by omega)]
      rw [e1]
      have e2 : (if n ≠ id ∧ wantsAt (js.getD n pj0) m = true then (js.getD n pj0).nd else 0) = wnA m (js.getD n pj0) := by
        unfold wnA
        by_cases q : wantsAt (js.getD n pj0) m = true
        · rw [if_pos ⟨e, q⟩, if_pos q]
        · rw [if_neg (fun a => q a.2), if_neg q]
      rw [e2]
      omega
theorem load_tot (js : List PJ) (id : Nat) (m : Int) (h : id < js.length) : loadF js id m + wnA m (js.getD id pj0) = (js.getD id pj0).nd + totL js m := by
  have := want_tot js id m js.length (Nat.le_refl _)
  rw [if_pos h, List.take_length] at this
  exact this

theorem fitsN_iff (js : List PJ) (nodes id : Nat) (t : Int) : ∀ n, fitsN js nodes id t n = true ↔ ∀ k : Nat, k < n → loadF js id (t + (k : Int)) ≤ nodes := by
  intro n
  induction n with
  | zero => simp [fitsN]
  | succ n ih =>
    unfold fitsN
    rw [Bool.and_eq_true, ih, decide_eq_true_iff]
    constructor
    · intro ⟨h1, h2⟩ k hk
      by_cases e : k = n
      · subst e; exact h2
      · exact h1 k (by omega)
    · intro h
      exact ⟨fun k hk => h k (by omega), h n (by omega)⟩
theorem fits_iff (js : List PJ) (nodes id : Nat) (t : Int) : fitsF js nodes id t = true ↔ ∀ m : Int, t ≤ m → m < t + ((js.getD id pj0).tm : Int) → loadF js id m ≤ nodes := by
  unfold fitsF
  rw [fitsN_iff]
  constructor
  · intro h m h1 h2
    have := h (m - t).toNat (by omega)
    rwa [show t + ((m - t).toNat : Int) = m from by omega] at this
  · intro h k hk
    exact h _ (by omega) (by omega)

theorem allN_ge (now : Int) (js : List PJ) : ∀ n, now ≤ allN now js n ∧ ∀ k, k < n → hasS (js.getD k pj0) = true → overJ (js.getD k pj0) ≤ allN now js n := by
  intro n
  induction n with
  | zero => exact ⟨Int.le_refl _, fun k hk => by omega⟩
  | succ n ih =>
    unfold allN
    split
    · rename_i hc
      refine ⟨by omega, ?_⟩
      intro k hk hh
      by_cases e : k = n
      · subst e; omega
      · have := ih.2 k (by omega) hh; omega
    · rename_i hc
      refine ⟨ih.1, ?_⟩
      intro k hk hh
      by_cases e : k = n
      · subst e
        by_cases q : allN now js k < overJ (js.getD k pj0)
        · exact absurd ⟨hh, q⟩ hc
        · omega
      · exact ih.2 k (by omega) hh
theorem tot_late (js : List PJ) (now m : Int) (h : allF now js ≤ m) : totL js m = 0 := by
  have h1 := (allN_ge now js js.length).2
  unfold totL
  have : ∀ j ∈ js, wnA m j = 0 := by
    intro j hj
    obtain ⟨k, hk, rfl⟩ := List.getElem_of_mem hj
    unfold wnA
    rw [if_neg]
    intro q
    unfold wantsAt at q
    simp at q
    have := h1 k hk (by rw [show js.getD k pj0 = js[k] from by simp [hk]]; exact q.1)
    rw [show js.getD k pj0 = js[k] from by simp [hk]] at this
    unfold allF at h
    omega
  have e := sum_le (wnA m) 0 js (fun j hj => by rw [this j hj]; omega)
  omega
theorem earlN_spec (js : List PJ) (nodes id : Nat) (last : Int) : ∀ (f : Nat) (t : Int), t + (f : Int) = last → t ≤ earlN js nodes id last f t ∧ (fitsF js nodes id (earlN js nodes id last f t) = true ∨ earlN js nodes id last f t = last) ∧ ∀ m, t ≤ m → m < earlN js nodes id last f t → fitsF js nodes id m = false := by
  intro f
  induction f with
  | zero => intro t ht; unfold earlN; exact ⟨Int.le_refl _, Or.inr (by omega), fun m h1 h2 => by omega⟩
  | succ f ih =>
    intro t ht
    unfold earlN
    split
    · rename_i hc
      obtain ⟨a, b, c⟩ := ih (t + 1) (by omega)
      refine ⟨by omega, b, ?_⟩
      intro m h1 h2
      by_cases e : m = t
      · subst e; exact hc.2
      · exact c m (by omega) h2
    · rename_i hc
      refine ⟨Int.le_refl _, Or.inl ?_, fun m h1 h2 => by omega⟩
      by_cases q : fitsF js nodes id t = true
      · exact q
      · exact absurd ⟨by omega, by simpa using q⟩ hc
theorem early_spec (js : List PJ) (nodes id : Nat) (now : Int) (hi : id < js.length) (hn : (js.getD id pj0).nd ≤ nodes) : now ≤ earlF js nodes id now ∧ fitsF js nodes id (earlF js nodes id now) = true ∧ ∀ m, now ≤ m → m < earlF js nodes id now → fitsF js nodes id m = false := by
  have hg := (allN_ge now js js.length).1
  have hA : now ≤ allF now js := hg
  obtain ⟨a, b, c⟩ := earlN_spec js nodes id (allF now js) (allF now js - now).toNat now (by omega)
  refine ⟨a, ?_, c⟩
  rcases b with b | b
  · exact b
  · unfold earlF
    rw [b, fits_iff]
    intro m h1 h2
    have := load_tot js id m hi
    have e := tot_late js now m h1
    omega

theorem wnA_of {m : Int} {j : PJ} (h1 : hasS j = true) (h2 : j.sa ≤ m) (h3 : m < overJ j) : wnA m j = j.nd := by
  unfold wnA wantsAt
  rw [h1]; simp [h2, h3]
theorem wnA_no {m : Int} {j : PJ} (h1 : ¬ (hasS j = true ∧ j.sa ≤ m ∧ m < overJ j)) : wnA m j = 0 := by
  unfold wnA wantsAt
  rw [if_neg]
  intro q
  simp at q
  exact h1 q
theorem tot_set (js : List PJ) (m : Int) (i : Nat) (hi : i < js.length) (x : PJ) : totL (js.set i x) m + wnA m (js.getD i pj0) = totL js m + wnA m x := by
  have := sum_set (wnA m) js i hi x
  rw [getD_get hi]
  exact this
/-- A job that fits is put there. -/
theorem cap_put {js : List PJ} {nodes i : Nat} {m : Int} (hi : i < js.length) {x : PJ} (h0 : totL js m ≤ nodes) (hn : x.nd = (js.getD i pj0).nd) (ht : x.tm = (js.getD i pj0).tm) (hf : fitsF js nodes i x.sa = true) : totL (js.set i x) m ≤ nodes := by
  have h1 := tot_set js m i hi x
  have h2 := load_tot js i m hi
  by_cases q : hasS x = true ∧ x.sa ≤ m ∧ m < overJ x
  · rw [wnA_of q.1 q.2.1 q.2.2] at h1
    have := (fits_iff js nodes i x.sa).mp hf m q.2.1 (by have := q.2.2; unfold overJ at this; rw [← ht]; exact this)
    omega
  · rw [wnA_no q] at h1
    omega
theorem cap_drop {js : List PJ} {nodes i : Nat} {m : Int} (hi : i < js.length) {x : PJ} (h0 : totL js m ≤ nodes) (hx : hasS x = false) : totL (js.set i x) m ≤ nodes := by
  have h1 := tot_set js m i hi x
  rw [wnA_no (j := x) (fun q => by rw [hx] at q; exact absurd q.1 (by decide))] at h1
  omega
theorem cap_same {js : List PJ} {nodes i : Nat} {m : Int} (hi : i < js.length) {x : PJ} (h0 : totL js m ≤ nodes) (hx : wnA m x = wnA m (js.getD i pj0)) : totL (js.set i x) m ≤ nodes := by
  have h1 := tot_set js m i hi x
  omega

/-- A job's start and end are as its state wants them; a queued job may begin now. -/
structure Tmly (nodes : Nat) (now : Int) (j : PJ) : Prop where
  tm : 1 ≤ j.tm
  nd : j.nd ≤ nodes
  s0 : j.st = 0 → j.sa = -1 ∧ j.en = -1
  s1 : j.st = 1 → now ≤ j.sa ∧ j.en = -1
  s2 : j.st = 2 → 0 ≤ j.sa ∧ j.sa ≤ now ∧ now < overJ j ∧ j.en = -1
  s3 : j.st = 3 → 0 ≤ j.sa ∧ j.sa ≤ j.en ∧ j.en ≤ now ∧ j.en < overJ j
  s4 : j.st = 4 → 0 ≤ j.sa ∧ j.sa ≤ j.en ∧ j.en ≤ overJ j ∧ j.en ≤ now
  s5 : j.st = 5 → 0 ≤ j.en ∧ j.en ≤ now ∧ (j.sa = -1 ∨ (0 ≤ j.sa ∧ j.sa ≤ j.en ∧ j.en < overJ j))
  s6 : j.st = 6 → j.sa = -1 ∧ 0 ≤ j.en ∧ j.en ≤ now

/-- How a job may go on when nobody ends it. -/
structure Wend (j k : PJ) : Prop where
  nd : k.nd = j.nd
  tm : k.tm = j.tm
  cd : k.code = j.code
  e : 3 ≤ j.st → k.st = j.st ∧ k.sa = j.sa ∧ k.en = j.en
  r : j.st = 2 → k.sa = j.sa ∧ (k.st = 2 ∨ k.st = 4)
  q : j.st = 1 → 0 ≤ k.sa ∧ k.sa ≤ j.sa ∧ (k.st = 1 ∨ k.st = 2 ∨ k.st = 4)
theorem Wend.trans {a b c : PJ} (h : Wend a b) (k : Wend b c) : Wend a c := by
  refine ⟨k.nd.trans h.nd, k.tm.trans h.tm, k.cd.trans h.cd, ?_, ?_, ?_⟩
  · intro q
    have h1 := h.e q
    have h2 := k.e (by omega)
    omega
  · intro q
    have h1 := h.r q
    rcases h1.2 with e | e
    · have := k.r e; omega
    · have := k.e (by omega); omega
  · intro q
    obtain ⟨h0, h1, h2⟩ := h.q q
    rcases h2 with e | e | e
    · have := k.q e; omega
    · have := k.r e; omega
    · have := k.e (by omega); omega
def WendL (a b : List PJ) : Prop := b.length = a.length ∧ ∀ i, i < a.length → Wend (a.getD i pj0) (b.getD i pj0)
theorem WendL.trans {a b c : List PJ} (h : WendL a b) (k : WendL b c) : WendL a c :=
  ⟨k.1.trans h.1, fun i hi => (h.2 i hi).trans (k.2 i (by rw [h.1]; exact hi))⟩
theorem Wend.refl {j : PJ} (h : j.st = 1 → 0 ≤ j.sa) : Wend j j := ⟨rfl, rfl, rfl, fun _ => ⟨rfl, rfl, rfl⟩, fun q => ⟨rfl, Or.inl q⟩, fun q => ⟨h q, Int.le_refl _, Or.inl q⟩⟩

/-- Jobs that fit together. -/
structure Fitg (nodes : Nat) (now : Int) (js : List PJ) : Prop where
  n0 : 0 ≤ now
  t : ∀ i, i < js.length → Tmly nodes now (js.getD i pj0)
  c : ∀ m, now ≤ m → totL js m ≤ nodes
theorem Fitg.refl {nodes : Nat} {now : Int} {js : List PJ} (h : Fitg nodes now js) : WendL js js :=
  ⟨rfl, fun i hi => Wend.refl (fun q => by have := (h.t i hi).s1 q; have := h.n0; omega)⟩
theorem Fitg.set {nodes : Nat} {now : Int} {js : List PJ} (h : Fitg nodes now js) {i : Nat} (hi : i < js.length) {x : PJ} (ht : Tmly nodes now x) (hc : ∀ m, now ≤ m → totL (js.set i x) m ≤ nodes) : Fitg nodes now (js.set i x) := by
  refine ⟨h.n0, ?_, hc⟩
  intro k hk
  rw [getD_set hi]
  split
  · exact ht
  · exact h.t k (by simpa using hk)
theorem WendL.set {nodes : Nat} {now : Int} {js : List PJ} (h : Fitg nodes now js) {i : Nat} (hi : i < js.length) {x : PJ} (hx : Wend (js.getD i pj0) x) : WendL js (js.set i x) := by
  refine ⟨by simp, ?_⟩
  intro k hk
  rw [getD_set hi]
  split
  · rename_i e; subst e; exact hx
  · exact (h.refl).2 k hk

theorem heldB_st {js : List PJ} {i v : Nat} (h : heldB js i v = true) : (js.getD i pj0).st = 0 := by
  unfold heldB at h; simp at h; exact h.1
theorem give_fit {nodes : Nat} {now : Int} {js : List PJ} (h : Fitg nodes now js) : ∀ n, n ≤ js.length → Fitg nodes now (giveN now js n).1 ∧ WendL js (giveN now js n).1 := by
  intro n
  induction n with
  | zero => intro _; exact ⟨h, h.refl⟩
  | succ n ih =>
    intro hn
    obtain ⟨h1, h2⟩ := ih (by omega)
    unfold giveN
    split
    · rename_i hc
      have hi : n < (giveN now js n).1.length := by rw [h2.1]; omega
      have h0 := heldB_st hc
      have ht := h1.t n hi
      have hq := ht.s0 h0
      have hf : Fitg nodes now ((giveN now js n).1.set n ((((giveN now js n).1.getD n pj0).toSt 6).toEn now)) :=
        h1.set hi ⟨ht.tm, ht.nd, (by intro q; simp [PJ.toEn, PJ.toSt] at q), (by intro q; simp [PJ.toEn, PJ.toSt] at q), (by intro q; simp [PJ.toEn, PJ.toSt] at q), (by intro q; simp [PJ.toEn, PJ.toSt] at q), (by intro q; simp [PJ.toEn, PJ.toSt] at q), (by intro q; simp [PJ.toEn, PJ.toSt] at q), (by intro q; exact ⟨hq.1, h.n0, Int.le_refl _⟩)⟩ (fun m hm => cap_drop hi (h1.c m hm) rfl)
      refine ⟨hf, h2.trans (WendL.set h1 hi ⟨rfl, rfl, rfl, ?_, ?_, ?_⟩)⟩
      · intro q; omega
      · intro q; omega
      · intro q; omega
    · exact ⟨h1, h2⟩
theorem giveF_fit (nodes : Nat) (now : Int) : ∀ (k : Nat) (js : List PJ), Fitg nodes now js → Fitg nodes now (giveF now k js) ∧ WendL js (giveF now k js) := by
  intro k
  induction k with
  | zero => intro js h; exact ⟨h, h.refl⟩
  | succ k ih =>
    intro js h
    unfold giveF
    obtain ⟨h1, h2⟩ := give_fit h js.length (Nat.le_refl _)
    split
    · obtain ⟨h3, h4⟩ := ih _ h1
      exact ⟨h3, h2.trans h4⟩
    · exact ⟨h1, h2⟩

theorem goes_qs {a b : List PJ} {qs : List Nat} (h : ∀ i, i < a.length → (b.getD i pj0).st = (a.getD i pj0).st) (hl : b.length = a.length) (hq : ∀ i ∈ qs, i < a.length ∧ (a.getD i pj0).st = 1) : ∀ i ∈ qs, i < b.length ∧ (b.getD i pj0).st = 1 :=
  fun i hi => ⟨by rw [hl]; exact (hq i hi).1, by rw [h i (hq i hi).1]; exact (hq i hi).2⟩
theorem qs_mem {qs : List Nat} {n : Nat} (h : n < qs.length) : qs.getD n 0 ∈ qs := by
  rw [show qs.getD n 0 = qs[n] from by simp [h]]
  exact List.getElem_mem h
/-- moveEach: the queued jobs stay queued, none begins later. -/
theorem moveN_fit {nodes : Nat} {now : Int} {js : List PJ} {qs : List Nat} (h : Fitg nodes now js) (hq : ∀ i ∈ qs, i < js.length ∧ (js.getD i pj0).st = 1) :
    ∀ n, n ≤ qs.length → Fitg nodes now (moveN nodes now qs js n).1 ∧ WendL js (moveN nodes now qs js n).1 ∧ ∀ i, i < js.length → ((moveN nodes now qs js n).1.getD i pj0).st = (js.getD i pj0).st := by
  intro n
  induction n with
  | zero => intro _; exact ⟨h, h.refl, fun _ _ => rfl⟩
  | succ n ih =>
    intro hn
    obtain ⟨h1, h2, h3⟩ := ih (by omega)
    unfold moveN
    split
    · rename_i hc
      have hm := qs_mem (qs := qs) (n := n) (by omega)
      have hi0 := (hq _ hm).1
      have hi : qs.getD n 0 < (moveN nodes now qs js n).1.length := by rw [h2.1]; exact hi0
      generalize qs.getD n 0 = id at *
      have hs : ((moveN nodes now qs js n).1.getD id pj0).st = 1 := by rw [h3 _ hi0]; exact (hq _ hm).2
      generalize (moveN nodes now qs js n).1 = X at *
      have ht := h1.t id hi
      obtain ⟨e1, e2, e3⟩ := early_spec X nodes id now hi ht.nd
      have hq1 := ht.s1 hs
      have hf : Fitg nodes now (X.set id ((X.getD id pj0).toSa (earlF X nodes id now))) := by
        refine h1.set hi ⟨ht.tm, ht.nd, ?_, ?_, ?_, ?_, ?_, ?_, ?_⟩ (fun m hm => cap_put hi (h1.c m hm) rfl rfl e2)
        · intro q; change (X.getD id pj0).st = _ at q; omega
        · intro q; exact ⟨e1, hq1.2⟩
        · intro q; change (X.getD id pj0).st = _ at q; omega
        · intro q; change (X.getD id pj0).st = _ at q; omega
        · intro q; change (X.getD id pj0).st = _ at q; omega
        · intro q; change (X.getD id pj0).st = _ at q; omega
        · intro q; change (X.getD id pj0).st = _ at q; omega
      refine ⟨hf, h2.trans (WendL.set h1 hi ⟨rfl, rfl, rfl, ?_, ?_, ?_⟩), ?_⟩
      · intro q; omega
      · intro q; omega
      · intro q
        refine ⟨?_, ?_, Or.inl hs⟩
        · show 0 ≤ earlF X nodes id now; have := h.n0; omega
        · show earlF X nodes id now ≤ _; omega
      · intro i hi2
        dsimp only
        rw [getD_set hi]
        split
        · rename_i e; rw [e]; show (X.getD id pj0).st = _; rw [hs]; exact (hq _ hm).2.symm
        · exact h3 i hi2
    · exact ⟨h1, h2, h3⟩
theorem moveN_false {nodes : Nat} {now : Int} {js : List PJ} {qs : List Nat} : ∀ n, (moveN nodes now qs js n).2 = false → (moveN nodes now qs js n).1 = js ∧ ∀ k, k < n → ¬ earlF js nodes (qs.getD k 0) now < (js.getD (qs.getD k 0) pj0).sa := by
  intro n
  induction n with
  | zero => intro _; exact ⟨rfl, fun k hk => by omega⟩
  | succ n ih =>
    intro h
    unfold moveN at h ⊢
    split at h
    · exact absurd h (by simp)
    · rename_i hc
      rw [if_neg hc]
      obtain ⟨h1, h2⟩ := ih h
      refine ⟨h1, ?_⟩
      intro k hk
      by_cases e : k = n
      · subst e; rw [h1] at hc; exact hc
      · exact h2 k (by omega)
/-- No queued job fits ahead of its start. -/
def Tghts (nodes : Nat) (now : Int) (js : List PJ) : Prop := ∀ i, i < js.length → (js.getD i pj0).st = 1 → ∀ t, now ≤ t → t < (js.getD i pj0).sa → fitsF js nodes i t = false
theorem moveF_fit {nodes : Nat} {now : Int} {qs : List Nat} : ∀ (k : Nat) (p : PS), p.nodes = nodes → p.now = now → p.qs = qs → POK p → sumS p.js < k → Fitg nodes now p.js → Fitg nodes now (moveF nodes now qs k p.js) ∧ WendL p.js (moveF nodes now qs k p.js) ∧ (∀ i, i < p.js.length → ((moveF nodes now qs k p.js).getD i pj0).st = (p.js.getD i pj0).st) ∧ Tghts nodes now (moveF nodes now qs k p.js) := by
  intro k
  induction k with
  | zero => intro p _ _ _ _ h; omega
  | succ k ih =>
    intro p h1 h2 h3 hp hs h
    subst h1 h2 h3
    have hq : ∀ i ∈ p.qs, i < p.js.length ∧ (p.js.getD i pj0).st = 1 := fun i hi => ⟨hp.q.lt i hi, hp.q.q1 i hi⟩
    obtain ⟨a, b, c⟩ := moveN_fit h hq p.qs.length (Nat.le_refl _)
    have hd := moveN_sum hp.n hp.q.lt p.qs.length (Nat.le_refl _)
    unfold moveF
    split
    · rename_i hc
      have hp1 : POK (p.withJ (moveN p.nodes p.now p.qs p.js p.qs.length).1) := by
        refine ⟨moveN_ok hp.n hp.q.lt _ (Nat.le_refl _), ?_⟩
        exact moveN_qok _ _ hp.q _ (Nat.le_refl _)
      obtain ⟨a1, b1, c1, d1⟩ := ih (p.withJ (moveN p.nodes p.now p.qs p.js p.qs.length).1) rfl rfl rfl hp1 (by have := hd.2 hc; show sumS (moveN p.nodes p.now p.qs p.js p.qs.length).1 < k; omega) a
      refine ⟨a1, b.trans b1, ?_, d1⟩
      intro i hi
      rw [← c i hi]
      exact c1 i (by show i < (moveN p.nodes p.now p.qs p.js p.qs.length).1.length; rw [b.1]; exact hi)
    · rename_i hc
      refine ⟨a, b, c, ?_⟩
      obtain ⟨e, hn⟩ := moveN_false p.qs.length (by simpa using hc)
      rw [e]
      intro i hi hst t h1 h2
      have hm := hp.q.al i hi hst
      obtain ⟨n, hn1, hn2⟩ := List.getElem_of_mem hm
      have := hn n hn1
      rw [show p.qs.getD n 0 = i from by simp [hn1, hn2]] at this
      exact (early_spec p.js p.nodes i p.now hi (h.t i hi).nd).2.2 t h1 (by omega)
end Go.Proofs.YtanknpmojblmcaaGreatDoor

/-
  Settling, passing, finishing, cancelling: what stands behind each.
-/
set_option linter.unusedSimpArgs false
set_option linter.unusedVariables false
namespace Go.Proofs.YtanknpmojblmcaaGreatDoor

theorem load_set {js : List PJ} {i k : Nat} {x : PJ} {m : Int} (hi : i < js.length) (hk : k < js.length) (hne : k ≠ i) : loadF (js.set i x) k m + wnA m (js.getD i pj0) = loadF js k m + wnA m x := by
  have h1 := load_tot (js.set i x) k m (by simpa using hk)
  have h2 := load_tot js k m hk
  have h3 := tot_set js m i hi x
  rw [getD_set hi, if_neg hne] at h1
  omega
theorem load_own {js : List PJ} {i : Nat} {x : PJ} {m : Int} (hi : i < js.length) (hn : x.nd = (js.getD i pj0).nd) : loadF (js.set i x) i m = loadF js i m := by
  have h1 := load_tot (js.set i x) i m (by simpa using hi)
  have h2 := load_tot js i m hi
  have h3 := tot_set js m i hi x
  rw [getD_set hi, if_pos rfl] at h1
  omega
/-- More load: what did not fit fits no more. -/
theorem fits_more {js : List PJ} {nodes i k : Nat} {x : PJ} {t : Int} (hi : i < js.length) (hk : k < js.length) (hn : x.nd = (js.getD i pj0).nd) (ht : x.tm = (js.getD i pj0).tm) (hw : k ≠ i → ∀ m, wnA m (js.getD i pj0) ≤ wnA m x) (h : fitsF js nodes k t = false) : fitsF (js.set i x) nodes k t = false := by
  rw [Bool.eq_false_iff] at h ⊢
  intro q
  apply h
  rw [fits_iff] at q ⊢
  intro m h1 h2
  by_cases e : k = i
  · subst e
    have := q m h1 (by rw [getD_set hi, if_pos rfl, ht]; exact h2)
    rwa [load_own hi hn] at this
  · have := q m h1 (by rw [getD_set hi, if_neg e]; exact h2)
    have h4 := load_set (x := x) (m := m) hi hk e
    have h5 := hw e m
    omega

theorem queN_fit {p : PS} (h : Fitg p.nodes p.now p.js) (hT : Tghts p.nodes p.now p.js) : ∀ n, n ≤ p.js.length → Fitg p.nodes p.now (queN p n).1 ∧ WendL p.js (queN p n).1 ∧ Tghts p.nodes p.now (queN p n).1 := by
  intro n
  induction n with
  | zero => intro _; exact ⟨h, h.refl, hT⟩
  | succ n ih =>
    intro hn
    obtain ⟨h1, h2, h3⟩ := ih (by omega)
    unfold queN
    split
    · rename_i hc
      have hi : n < (queN p n).1.length := by rw [h2.1]; omega
      have h0 := heldB_st hc
      have hn0 := h.n0
      generalize (queN p n).1 = X at *
      have ht := h1.t n hi
      have hq := ht.s0 h0
      obtain ⟨e1, e2, e3⟩ := early_spec X p.nodes n p.now hi ht.nd
      have hw : ∀ m, wnA m (X.getD n pj0) ≤ wnA m (((X.getD n pj0).toSt 1).toSa (earlF X p.nodes n p.now)) := by
        intro m
        rw [wnA_no (j := X.getD n pj0)]
        · omega
        · intro q; have := q.1; unfold hasS at this; rw [h0] at this; simp at this
      refine ⟨?_, h2.trans (WendL.set h1 hi ⟨rfl, rfl, rfl, ?_, ?_, ?_⟩), ?_⟩
      · refine h1.set hi ⟨ht.tm, ht.nd, ?_, ?_, ?_, ?_, ?_, ?_, ?_⟩ (fun m hm => cap_put hi (h1.c m hm) rfl rfl e2)
        · intro q; simp [PJ.toSa, PJ.toSt] at q
        · intro q; exact ⟨e1, hq.2⟩
        · intro q; simp [PJ.toSa, PJ.toSt] at q
        · intro q; simp [PJ.toSa, PJ.toSt] at q
        · intro q; simp [PJ.toSa, PJ.toSt] at q
        · intro q; simp [PJ.toSa, PJ.toSt] at q
        · intro q; simp [PJ.toSa, PJ.toSt] at q
      · intro q; omega
      · intro q; omega
      · intro q; omega
      · intro i hi2 hst t t1 t2
        have hi3 : i < X.length := by simpa using hi2
        by_cases e : i = n
        · subst e
          rw [getD_set hi, if_pos rfl] at t2
          exact fits_more hi hi3 rfl rfl (fun q => absurd rfl q) (e3 t t1 t2)
        · dsimp only at hst t2
          rw [getD_set hi, if_neg e] at hst t2
          exact fits_more hi hi3 rfl rfl (fun _ => hw) (h3 i hi3 hst t t1 t2)
    · exact ⟨h1, h2, h3⟩

theorem begN_st {now : Int} {qs : List Nat} {js : List PJ} (hl : ∀ i ∈ qs, i < js.length) (h1 : ∀ i ∈ qs, (js.getD i pj0).st = 1) : ∀ n, n ≤ qs.length → (begN now qs js n).1.length = js.length ∧ ∀ i, i < js.length →
    ((begN now qs js n).1.getD i pj0 = js.getD i pj0 ∨ ((js.getD i pj0).st = 1 ∧ (js.getD i pj0).sa = now ∧ (begN now qs js n).1.getD i pj0 = (js.getD i pj0).toSt 2)) ∧ (∀ k, k < n → qs.getD k 0 = i → (js.getD i pj0).sa = now → ((begN now qs js n).1.getD i pj0).st = 2) := by
  intro n
  induction n with
  | zero => intro _; exact ⟨rfl, fun i _ => ⟨Or.inl rfl, fun k hk => by omega⟩⟩
  | succ n ih =>
    intro hn
    obtain ⟨a, b⟩ := ih (by omega)
    have hm := qs_mem (qs := qs) (n := n) (by omega)
    have hj := hl _ hm
    have hi : qs.getD n 0 < (begN now qs js n).1.length := by rw [a]; exact hj
    unfold begN
    split
    · rename_i hc
      refine ⟨by simp [a], ?_⟩
      intro i hi2
      dsimp only
      rw [getD_set hi]
      obtain ⟨b1, b2⟩ := b i hi2
      by_cases e : i = qs.getD n 0
      · rw [if_pos e]
        rw [← e] at hc hm ⊢
        refine ⟨Or.inr ?_, fun _ _ _ _ => rfl⟩
        rcases b1 with b1 | ⟨_, c2, c3⟩
        · rw [b1] at hc ⊢; exact ⟨h1 i hm, hc, rfl⟩
        · rw [c3]; exact ⟨h1 i hm, c2, rfl⟩
      · rw [if_neg e]
        refine ⟨b1, ?_⟩
        intro k hk hki hs
        by_cases e2 : k = n
        · subst e2; exact absurd hki.symm e
        · exact b2 k (by omega) hki hs
    · rename_i hc
      refine ⟨a, ?_⟩
      intro i hi2
      obtain ⟨b1, b2⟩ := b i hi2
      refine ⟨b1, ?_⟩
      intro k hk hki hs
      by_cases e2 : k = n
      · subst e2
        rcases b1 with b1 | ⟨_, _, c3⟩
        · rw [hki, b1] at hc; exact absurd hs hc
        · dsimp only; rw [c3]; rfl
      · exact b2 k (by omega) hki hs

/-- Lists with the same wishes. -/
theorem sum_same (f : PJ → Nat) : ∀ (a b : List PJ), b.length = a.length → (∀ i, i < a.length → f (b.getD i pj0) = f (a.getD i pj0)) → (b.map f).sum = (a.map f).sum := by
  intro a
  induction a with
  | nil => intro b hl _; have : b = [] := List.eq_nil_of_length_eq_zero hl; rw [this]
  | cons x r ih =>
    intro b hl h
    cases b with
    | nil => simp at hl
    | cons y s =>
      have h0 := h 0 (by simp)
      simp at h0
      have h1 := ih s (by simpa using hl) (fun i hi => by have := h (i + 1) (by simpa using hi); simpa using this)
      simp only [List.map_cons, List.sum_cons]
      omega
theorem fits_same {a b : List PJ} {nodes i : Nat} {t : Int} (hl : b.length = a.length) (hi : i < a.length) (hn : (b.getD i pj0).nd = (a.getD i pj0).nd) (ht : (b.getD i pj0).tm = (a.getD i pj0).tm) (hw : ∀ m k, k < a.length → wnA m (b.getD k pj0) = wnA m (a.getD k pj0)) : fitsF b nodes i t = fitsF a nodes i t := by
  have e : ∀ m, loadF b i m = loadF a i m := by
    intro m
    have h1 := load_tot a i m hi
    have h2 := load_tot b i m (by rw [hl]; exact hi)
    have h3 := hw m i hi
    have h4 : totL b m = totL a m := sum_same _ _ _ hl (fun k hk => hw m k hk)
    omega
  rw [Bool.eq_iff_iff, fits_iff, fits_iff, ht]
  constructor
  · intro h m h1 h2; rw [← e]; exact h m h1 h2
  · intro h m h1 h2; rw [e]; exact h m h1 h2

/-- What stands when all has settled. -/
structure Stl (p : PS) : Prop where
  ok : POK p
  f : Fitg p.nodes p.now p.js
  l : ∀ i, i < p.js.length → (p.js.getD i pj0).st = 1 → p.now < (p.js.getD i pj0).sa
  g : Tghts p.nodes p.now p.js

theorem wn_same {a b : PJ} (h : hasS b = hasS a) (h1 : b.sa = a.sa) (h2 : b.tm = a.tm) (h3 : b.nd = a.nd) (m : Int) : wnA m b = wnA m a := by
  unfold wnA wantsAt overJ
  rw [h, h1, h2, h3]
theorem begin_set {p : PS} (hp : POK p) (h : Fitg p.nodes p.now p.js) (hT : Tghts p.nodes p.now p.js) : Stl (beginF p) ∧ WendL p.js (beginF p).js := by
  obtain ⟨a, b⟩ := begN_st (now := p.now) hp.q.lt hp.q.q1 p.qs.length (Nat.le_refl _)
  have hgo : WendL p.js (beginF p).js := by
    refine ⟨a, ?_⟩
    intro i hi
    rcases (b i hi).1 with e | ⟨e1, e2, e3⟩
    · show Wend _ ((begN p.now p.qs p.js p.qs.length).1.getD i pj0)
      rw [e]; exact h.refl.2 i hi
    · show Wend _ ((begN p.now p.qs p.js p.qs.length).1.getD i pj0)
      rw [e3]
      have := h.n0
      exact ⟨rfl, rfl, rfl, fun q => by omega, fun q => by omega, fun q => ⟨by show 0 ≤ (p.js.getD i pj0).sa; omega, Int.le_refl _, Or.inr (Or.inl rfl)⟩⟩
  have hw : ∀ m k, k < p.js.length → wnA m ((beginF p).js.getD k pj0) = wnA m (p.js.getD k pj0) := by
    intro m k hk
    show wnA m ((begN p.now p.qs p.js p.qs.length).1.getD k pj0) = _
    rcases (b k hk).1 with e | ⟨e1, e2, e3⟩
    · rw [e]
    · rw [e3]
      exact wn_same (a := p.js.getD k pj0) (b := (p.js.getD k pj0).toSt 2) (by unfold hasS; rw [show ((p.js.getD k pj0).toSt 2).st = 2 from rfl, e1]; rfl) rfl rfl rfl m
  refine ⟨⟨beginF_ok hp, ⟨h.n0, ?_, ?_⟩, ?_, ?_⟩, hgo⟩
  · intro i hi
    have hi2 : i < p.js.length := by rw [← a]; exact hi
    have ht := h.t i hi2
    show Tmly p.nodes p.now ((begN p.now p.qs p.js p.qs.length).1.getD i pj0)
    rcases (b i hi2).1 with e | ⟨e1, e2, e3⟩
    · rw [e]; exact ht
    · rw [e3]
      have h1 := ht.s1 e1
      have h2 := h.n0
      have h3 := ht.tm
      refine ⟨ht.tm, ht.nd, ?_, ?_, ?_, ?_, ?_, ?_, ?_⟩
      · intro q; simp [PJ.toSt] at q
      · intro q; simp [PJ.toSt] at q
      · intro q
        refine ⟨?_, ?_, ?_, h1.2⟩
        · show 0 ≤ (p.js.getD i pj0).sa; omega
        · show (p.js.getD i pj0).sa ≤ _; omega
        · show _ < (p.js.getD i pj0).sa + ((p.js.getD i pj0).tm : Int); omega
      · intro q; simp [PJ.toSt] at q
      · intro q; simp [PJ.toSt] at q
      · intro q; simp [PJ.toSt] at q
      · intro q; simp [PJ.toSt] at q
  · intro m hm
    have e : totL (beginF p).js m = totL p.js m := sum_same _ _ _ a (fun k hk => hw m k hk)
    rw [e]; exact h.c m hm
  · intro i hi hs
    have hi2 : i < p.js.length := by rw [← a]; exact hi
    obtain ⟨b1, b2⟩ := b i hi2
    change ((begN p.now p.qs p.js p.qs.length).1.getD i pj0).st = 1 at hs
    show p.now < ((begN p.now p.qs p.js p.qs.length).1.getD i pj0).sa
    rcases b1 with e | ⟨e1, e2, e3⟩
    · rw [e] at hs ⊢
      have h1 := (h.t i hi2).s1 hs
      obtain ⟨k, hk, hk2⟩ := List.getElem_of_mem (hp.q.al i hi2 hs)
      by_cases q : (p.js.getD i pj0).sa = p.now
      · have := b2 k hk (by simp [hk, hk2]) q
        rw [e] at this; omega
      · omega
    · rw [e3] at hs; simp [PJ.toSt] at hs
  · intro i hi hs t t1 t2
    have hi2 : i < p.js.length := by rw [← a]; exact hi
    have hg := hgo.2 i hi2
    have hb := (b i hi2).1
    change ((begN p.now p.qs p.js p.qs.length).1.getD i pj0).st = 1 at hs
    have e : (begN p.now p.qs p.js p.qs.length).1.getD i pj0 = p.js.getD i pj0 := by
      rcases hb with e | ⟨e1, e2, e3⟩
      · exact e
      · rw [e3] at hs; simp [PJ.toSt] at hs
    change t < ((begN p.now p.qs p.js p.qs.length).1.getD i pj0).sa at t2
    rw [e] at hs t2
    show fitsF (beginF p).js p.nodes i t = false
    have e9 := fits_same (a := p.js) (b := (beginF p).js) (nodes := p.nodes) (t := t) a hi2 hg.nd hg.tm hw
    rw [e9]
    exact hT i hi2 hs t t1 t2

/-- Settling. -/
theorem settle_set {p : PS} (hp : POK p) (h : Fitg p.nodes p.now p.js) : Stl (settleF p) ∧ WendL p.js (settleF p).js := by
  obtain ⟨a1, a2⟩ := giveF_fit p.nodes p.now (cntH p.js + 1) p.js h
  have p1 := giveUpF_ok hp
  obtain ⟨b1, b2, _, b4⟩ := moveF_fit (sumS (giveUpF p).js + 1) (giveUpF p) rfl rfl rfl p1 (Nat.lt_succ_self _) a1
  have p2 := moveUpF_ok p1
  obtain ⟨c1, c2, c3⟩ := queN_fit (p := moveUpF (giveUpF p)) b1 b4 _ (Nat.le_refl _)
  have p3 := queueUpF_ok p2
  obtain ⟨d1, d2⟩ := begin_set (p := queueUpF (moveUpF (giveUpF p))) p3 c1 c3
  exact ⟨d1, a2.trans (b2.trans (c2.trans d2))⟩

theorem passN_st (now : Int) (js : List PJ) : ∀ n, n ≤ js.length → ∀ i, i < js.length → (passN now js n).getD i pj0 = if i < n ∧ (js.getD i pj0).st = 2 ∧ overJ (js.getD i pj0) = now then ((js.getD i pj0).toSt 4).toEn now else js.getD i pj0 := by
  intro n
  induction n with
  | zero => intro _ i hi; rw [if_neg (by omega)]; rfl
  | succ n ih =>
    intro hn i hi
    have h1 := ih (by omega)
    have hl := passN_len now js n
    have hn1 : n < (passN now js n).length := by omega
    have e0 : (passN now js n).getD n pj0 = js.getD n pj0 := by rw [h1 n (by omega), if_neg (by omega)]
    unfold passN
    rw [e0]
    by_cases hc : (js.getD n pj0).st = 2 ∧ overJ (js.getD n pj0) = now
    · rw [if_pos hc, getD_set hn1]
      by_cases e : i = n
      · subst e; rw [if_pos rfl, if_pos ⟨by omega, hc⟩]
      · rw [if_neg e, h1 i hi]
        by_cases q : i < n ∧ (js.getD i pj0).st = 2 ∧ overJ (js.getD i pj0) = now
        · rw [if_pos q, if_pos ⟨by omega, q.2⟩]
        · rw [if_neg q, if_neg (fun a => q ⟨by omega, a.2⟩)]
    · rw [if_neg hc, h1 i hi]
      by_cases q : i < n ∧ (js.getD i pj0).st = 2 ∧ overJ (js.getD i pj0) = now
      · rw [if_pos q, if_pos ⟨by omega, q.2⟩]
      · rw [if_neg q, if_neg]
        intro a
        by_cases e : i = n
        · subst e; exact hc a.2
        · exact q ⟨by omega, a.2⟩
theorem sum_lower (f : PJ → Nat) : ∀ (a b : List PJ), b.length = a.length → (∀ i, i < a.length → f (b.getD i pj0) ≤ f (a.getD i pj0)) → (b.map f).sum ≤ (a.map f).sum := by
  intro a
  induction a with
  | nil => intro b hl _; have : b = [] := List.eq_nil_of_length_eq_zero hl; rw [this]; exact Nat.le_refl _
  | cons x r ih =>
    intro b hl h
    cases b with
    | nil => simp at hl
    | cons y s =>
      have h0 := h 0 (by simp)
      simp at h0
      have h1 := ih s (by simpa using hl) (fun i hi => by have := h (i + 1) (by simpa using hi); simpa using this)
      simp only [List.map_cons, List.sum_cons]
      omega

/-- A unit of time goes by. -/
theorem pass_fit {p : PS} (h : Stl p) : Fitg p.nodes (p.now + 1) (passN (p.now + 1) p.js p.js.length) ∧ WendL p.js (passN (p.now + 1) p.js p.js.length) := by
  have hl := passN_len (p.now + 1) p.js p.js.length
  have hg := passN_st (p.now + 1) p.js p.js.length (Nat.le_refl _)
  have h0 := h.f.n0
  refine ⟨⟨by omega, ?_, ?_⟩, hl, ?_⟩
  · intro i hi
    have hi2 : i < p.js.length := by omega
    have ht := h.f.t i hi2
    have hl1 := h.l i hi2
    rw [hg i hi2]
    split
    · rename_i hc
      have a := ht.s2 hc.2.1
      have b := hc.2.2
      have c := ht.tm
      refine ⟨ht.tm, ht.nd, ?_, ?_, ?_, ?_, ?_, ?_, ?_⟩
      · intro q; simp [PJ.toSt, PJ.toEn] at q
      · intro q; simp [PJ.toSt, PJ.toEn] at q
      · intro q; simp [PJ.toSt, PJ.toEn] at q
      · intro q; simp [PJ.toSt, PJ.toEn] at q
      · intro q
        unfold overJ at a b
        show 0 ≤ (p.js.getD i pj0).sa ∧ (p.js.getD i pj0).sa ≤ p.now + 1 ∧ p.now + 1 ≤ (p.js.getD i pj0).sa + ((p.js.getD i pj0).tm : Int) ∧ p.now + 1 ≤ p.now + 1
        omega
      · intro q; simp [PJ.toSt, PJ.toEn] at q
      · intro q; simp [PJ.toSt, PJ.toEn] at q
    · rename_i hc
      refine ⟨ht.tm, ht.nd, ht.s0, ?_, ?_, ?_, ?_, ?_, ?_⟩
      · intro q; have := ht.s1 q; have := hl1 q; omega
      · intro q
        have := ht.s2 q
        by_cases e : overJ (p.js.getD i pj0) = p.now + 1
        · exact absurd ⟨hi2, q, e⟩ hc
        · omega
      · intro q; have := ht.s3 q; omega
      · intro q; have := ht.s4 q; omega
      · intro q; have := ht.s5 q; omega
      · intro q; have := ht.s6 q; omega
  · intro m hm
    have h1 := h.f.c m (by omega)
    have h2 : totL (passN (p.now + 1) p.js p.js.length) m ≤ totL p.js m := by
      refine sum_lower _ _ _ hl ?_
      intro i hi
      rw [hg i hi]
      split
      · rename_i hc
        rw [wnA_no (by intro q; have := q.1; simp [hasS, PJ.toSt, PJ.toEn] at this)]
        omega
      · exact Nat.le_refl _
    omega
  · intro i hi
    rw [hg i hi]
    split
    · rename_i hc
      exact ⟨rfl, rfl, rfl, fun q => by omega, fun q => ⟨rfl, Or.inr rfl⟩, fun q => by omega⟩
    · exact h.f.refl.2 i hi
theorem pass_set {p : PS} (h : Stl p) (hn : p.now < 5000) : Stl (passF p) ∧ WendL p.js (passF p).js := by
  obtain ⟨a, b⟩ := pass_fit h
  have hp := passN_ok (later_ok h.ok hn) _ (Nat.le_refl _)
  obtain ⟨c, d⟩ := settle_set (p := { p with now := p.now + 1, js := passN (p.now + 1) p.js p.js.length }) hp a
  exact ⟨c, b.trans d⟩
theorem tick_set {p : PS} (h : Stl p) : ∀ n : Nat, p.now + (n : Int) ≤ 5000 → Stl (tickN p n) ∧ WendL p.js (tickN p n).js ∧ (tickN p n).now = p.now + (n : Int) ∧ (tickN p n).nodes = p.nodes ∧ (tickN p n).gs = p.gs := by
  intro n
  induction n with
  | zero => intro _; exact ⟨h, h.f.refl, by simp [tickN], rfl, rfl⟩
  | succ n ih =>
    intro hn
    obtain ⟨a, b, c, d, e⟩ := ih (by omega)
    obtain ⟨a1, b1⟩ := pass_set a (by omega)
    refine ⟨a1, b.trans b1, ?_, d, e⟩
    show (tickN p n).now + 1 = _
    omega

/-- A job that is ended by somebody. -/
theorem end_fit {p : PS} (h : Stl p) {id st : Nat} (hid : id < p.js.length) (hst : (3 ≤ st ∧ st ≤ 4 ∧ (p.js.getD id pj0).st = 2) ∨ (st = 5 ∧ (p.js.getD id pj0).st ≤ 2 ∧ (p.js.getD id pj0).st ≠ 1)) : Fitg p.nodes p.now (endP p id st).js := by
  have ht := h.f.t id hid
  have h0 := h.f.n0
  refine h.f.set hid ⟨ht.tm, ht.nd, ?_, ?_, ?_, ?_, ?_, ?_, ?_⟩ (fun m hm => cap_drop hid (h.f.c m hm) ?_)
  · intro q; change st = 0 at q; omega
  · intro q; change st = 1 at q; omega
  · intro q; change st = 2 at q; omega
  · intro q
    change st = 3 at q
    rcases hst with ⟨_, _, a⟩ | ⟨a, _⟩
    · have := ht.s2 a
      show 0 ≤ (p.js.getD id pj0).sa ∧ (p.js.getD id pj0).sa ≤ p.now ∧ p.now ≤ p.now ∧ p.now < overJ (p.js.getD id pj0)
      omega
    · omega
  · intro q
    change st = 4 at q
    rcases hst with ⟨_, _, a⟩ | ⟨a, _⟩
    · have := ht.s2 a
      show 0 ≤ (p.js.getD id pj0).sa ∧ (p.js.getD id pj0).sa ≤ p.now ∧ p.now ≤ overJ (p.js.getD id pj0) ∧ p.now ≤ p.now
      omega
    · omega
  · intro q
    change st = 5 at q
    show 0 ≤ p.now ∧ p.now ≤ p.now ∧ ((p.js.getD id pj0).sa = -1 ∨ (0 ≤ (p.js.getD id pj0).sa ∧ (p.js.getD id pj0).sa ≤ p.now ∧ p.now < overJ (p.js.getD id pj0)))
    rcases hst with ⟨_, b, a⟩ | ⟨_, a, b⟩
    · omega
    · by_cases e : (p.js.getD id pj0).st = 0
      · have := ht.s0 e; exact ⟨h0, Int.le_refl _, Or.inl this.1⟩
      · have := ht.s2 (by omega); exact ⟨h0, Int.le_refl _, Or.inr (by omega)⟩
  · intro q; change st = 6 at q; omega
  · unfold hasS
    show (((st : Nat) : Int) == 2 || ((st : Nat) : Int) == 1) = false
    simp
    omega
theorem leave_fit {p : PS} (h : Stl p) {id : Nat} (hid : id < p.js.length) (h1 : (p.js.getD id pj0).st = 1) : Fitg p.nodes p.now (endP (leaveP p id) id 5).js := by
  have ht := h.f.t id hid
  have h0 := h.f.n0
  have e : (endP (leaveP p id) id 5).js = p.js.set id ((((p.js.getD id pj0).toSa (-1)).toSt 5).toEn p.now) := by
    show (p.js.set id ((p.js.getD id pj0).toSa (-1))).set id ((((p.js.set id ((p.js.getD id pj0).toSa (-1))).getD id pj0).toSt 5).toEn p.now) = _
    rw [getD_set hid, if_pos rfl, List.set_set]
  rw [e]
  refine h.f.set hid ⟨ht.tm, ht.nd, ?_, ?_, ?_, ?_, ?_, ?_, ?_⟩ (fun m hm => cap_drop hid (h.f.c m hm) rfl)
  · intro q; simp [PJ.toSt, PJ.toEn] at q
  · intro q; simp [PJ.toSt, PJ.toEn] at q
  · intro q; simp [PJ.toSt, PJ.toEn] at q
  · intro q; simp [PJ.toSt, PJ.toEn] at q
  · intro q; simp [PJ.toSt, PJ.toEn] at q
  · intro q; exact ⟨h0, Int.le_refl _, Or.inl rfl⟩
  · intro q; simp [PJ.toSt, PJ.toEn] at q
theorem settleF_len (p : PS) (hp : POK p) (h : Fitg p.nodes p.now p.js) : (settleF p).js.length = p.js.length := (settle_set hp h).2.1
/-- Finish of a running job. -/
theorem finish_set {p : PS} (h : Stl p) {id : Nat} (ok : Bool) (hid : id < p.js.length) (hs : (p.js.getD id pj0).st = 2) :
    ∃ q, finishF p (id : Int) ok = (q, 0) ∧ Stl q ∧ q.now = p.now ∧ q.nodes = p.nodes ∧ q.gs = p.gs ∧ q.js.length = p.js.length ∧ (q.js.getD id pj0).st = (if ok then 3 else 4) ∧ (q.js.getD id pj0).en = p.now ∧ (q.js.getD id pj0).sa = (p.js.getD id pj0).sa ∧ (q.js.getD id pj0).nd = (p.js.getD id pj0).nd ∧ (q.js.getD id pj0).tm = (p.js.getD id pj0).tm ∧ (q.js.getD id pj0).code = (p.js.getD id pj0).code ∧ ∀ i, i < p.js.length → i ≠ id → Wend (p.js.getD i pj0) (q.js.getD i pj0) := by
  have hf := end_fit h (st := if ok then 3 else 4) hid (Or.inl ⟨by cases ok <;> simp, by cases ok <;> simp, hs⟩)
  have hp := endP_ok h.ok id (if ok then 3 else 4) hid (by omega) (by cases ok <;> simp) (by cases ok <;> simp)
  obtain ⟨a, b⟩ := settle_set hp hf
  have hl : (endP p id (if ok then 3 else 4)).js.length = p.js.length := by simp [endP, PS.withJ]
  refine ⟨settleF (endP p id (if ok then 3 else 4)), ?_, a, rfl, rfl, rfl, b.1.trans hl, ?_⟩
  · unfold finishF hasP
    rw [if_neg (by simp; omega), Int.toNat_natCast, if_neg (by omega)]
  · have hb := b.2 id (by rw [hl]; exact hid)
    have e : (endP p id (if ok then 3 else 4)).js.getD id pj0 = ((p.js.getD id pj0).toSt (if ok then 3 else 4)).toEn p.now := by
      show (p.js.set id _).getD id pj0 = _
      rw [getD_set hid, if_pos rfl]
    rw [e] at hb
    have hc := hb.e (by show 3 ≤ (if ok then 3 else 4); cases ok <;> simp)
    refine ⟨hc.1, hc.2.2, hc.2.1, hb.nd, hb.tm, hb.cd, ?_⟩
    intro i hi hne
    have := b.2 i (by rw [hl]; exact hi)
    rwa [show (endP p id (if ok then 3 else 4)).js.getD i pj0 = p.js.getD i pj0 from by show (p.js.set id _).getD i pj0 = _; rw [getD_set hid, if_neg hne]] at this
/-- Cancel of a job that is not at an end. -/
theorem cancel_set {p : PS} (h : Stl p) {id : Nat} (hid : id < p.js.length) (hs : (p.js.getD id pj0).st ≤ 2) :
    ∃ q, cancelF p (id : Int) = (q, 0) ∧ Stl q ∧ q.now = p.now ∧ q.nodes = p.nodes ∧ q.gs = p.gs ∧ q.js.length = p.js.length ∧ (q.js.getD id pj0).st = 5 ∧ (q.js.getD id pj0).en = p.now ∧ (q.js.getD id pj0).sa = (if (p.js.getD id pj0).st = 1 then -1 else (p.js.getD id pj0).sa) ∧ (q.js.getD id pj0).nd = (p.js.getD id pj0).nd ∧ (q.js.getD id pj0).tm = (p.js.getD id pj0).tm ∧ (q.js.getD id pj0).code = (p.js.getD id pj0).code ∧ ∀ i, i < p.js.length → i ≠ id → Wend (p.js.getD i pj0) (q.js.getD i pj0) := by
  have key : ∀ r : PS, cancelF p (id : Int) = (settleF r, 0) → POK r → r.nodes = p.nodes → r.now = p.now → r.gs = p.gs → Fitg p.nodes p.now r.js → ∀ s5 : Int, s5 = (if (p.js.getD id pj0).st = 1 then -1 else (p.js.getD id pj0).sa) → r.js = p.js.set id ((((p.js.getD id pj0).toSa s5).toSt 5).toEn p.now) → ∃ q, cancelF p (id : Int) = (q, 0) ∧ Stl q ∧ q.now = p.now ∧ q.nodes = p.nodes ∧ q.gs = p.gs ∧ q.js.length = p.js.length ∧ (q.js.getD id pj0).st = 5 ∧ (q.js.getD id pj0).en = p.now ∧ (q.js.getD id pj0).sa = (if (p.js.getD id pj0).st = 1 then -1 else (p.js.getD id pj0).sa) ∧ (q.js.getD id pj0).nd = (p.js.getD id pj0).nd ∧ (q.js.getD id pj0).tm = (p.js.getD id pj0).tm ∧ (q.js.getD id pj0).code = (p.js.getD id pj0).code ∧ ∀ i, i < p.js.length → i ≠ id → Wend (p.js.getD i pj0) (q.js.getD i pj0) := by
    intro r hr hp hn hw hgs hf s5 hs5 hj
    rw [← hn, ← hw] at hf
    obtain ⟨a, b⟩ := settle_set hp hf
    have hl : r.js.length = p.js.length := by rw [hj]; simp
    refine ⟨settleF r, hr, a, hw, hn, hgs, b.1.trans hl, ?_⟩
    have hb := b.2 id (by rw [hl]; exact hid)
    have e : r.js.getD id pj0 = (((p.js.getD id pj0).toSa s5).toSt 5).toEn p.now := by rw [hj, getD_set hid, if_pos rfl]
    rw [e] at hb
    have hc := hb.e (by show 3 ≤ 5; omega)
    refine ⟨hc.1, hc.2.2, hc.2.1.trans hs5, hb.nd, hb.tm, hb.cd, ?_⟩
    intro i hi hne
    have := b.2 i (by rw [hl]; exact hi)
    rwa [show r.js.getD i pj0 = p.js.getD i pj0 from by rw [hj, getD_set hid, if_neg hne]] at this
  by_cases e : (p.js.getD id pj0).st = 1
  · refine key (endP (leaveP p id) id 5) ?_ (leaveP_ok h.ok id hid e) rfl rfl rfl (leave_fit h hid e) (-1) (by rw [if_pos e]) ?_
    · unfold cancelF hasP
      rw [if_neg (by simp; omega), Int.toNat_natCast, if_neg (by omega), if_pos e]
    · show (p.js.set id ((p.js.getD id pj0).toSa (-1))).set id ((((p.js.set id ((p.js.getD id pj0).toSa (-1))).getD id pj0).toSt 5).toEn p.now) = _
      rw [getD_set hid, if_pos rfl, List.set_set]
  · refine key (endP p id 5) ?_ (endP_ok h.ok id 5 hid e (by omega) (by omega)) rfl rfl rfl (end_fit h hid (Or.inr ⟨rfl, hs, e⟩)) (p.js.getD id pj0).sa (by rw [if_neg e]) rfl
    · unfold cancelF hasP
      rw [if_neg (by simp; omega), Int.toNat_natCast, if_neg (by omega), if_neg e]
end Go.Proofs.YtanknpmojblmcaaGreatDoor

/-
  The book: heads that are made refer to heads that there are.
-/
set_option linter.unusedSimpArgs false
set_option linter.unusedVariables false
namespace Go.Proofs.YtanknpmojblmcaaGreatDoor

/-- A head's group. -/
def grpM (m : MB) : GV := ⟨m.job.name, m.job.arr, m.job.lo, m.first, m.count⟩
def cntM (ms : List MB) : Nat := (ms.map (·.count)).sum
structure BkOK (ms : List MB) (bn bj : Nat) : Prop where
  good : ∀ m ∈ ms, GoodB m
  bat : ∀ m ∈ ms, m.batch ≤ bn
  cnt : cntM ms = bj
  fst : ∀ k, k < ms.length → (ms.getD k mb0).first = cntM (ms.take k)

theorem latB_latN (ms : List MB) (nm : List UInt8) : ∀ n, latB ms nm n = latN (ms.map grpM) nm n := by
  intro n
  induction n with
  | zero => rfl
  | succ n ih =>
    unfold latB latN
    rw [ih]
    have e : (ms.map grpM)[n]?.map (·.name) = ms[n]?.map (·.job.name) := by
      rw [List.getElem?_map, Option.map_map]; rfl
    rw [e]
theorem latB_some {ms : List MB} {nm : List UInt8} : ∀ {n k : Nat}, latB ms nm n = some k → k < n ∧ k < ms.length ∧ (ms.getD k mb0).job.name = nm := by
  intro n
  induction n with
  | zero => intro k h; simp [latB] at h
  | succ n ih =>
    intro k h
    unfold latB at h
    split at h
    · rename_i hc
      simp at h; subst h
      cases e : ms[n]? with
      | none => rw [e] at hc; simp at hc
      | some m =>
        rw [e] at hc; simp at hc
        have hl : n < ms.length := by
          rcases Nat.lt_or_ge n ms.length with q | q
          · exact q
          · rw [List.getElem?_eq_none q] at e; simp at e
        refine ⟨by omega, hl, ?_⟩
        rw [List.getElem?_eq_getElem hl] at e
        simp at e
        simp [hl, e, hc]
    · obtain ⟨a, b, c⟩ := ih h
      exact ⟨by omega, b, c⟩
theorem latN_none {gs : List GV} {nm : List UInt8} : ∀ (n : Nat), (∀ k, k < n → gs[k]?.map (·.name) ≠ some nm) → latN gs nm n = none := by
  intro n
  induction n with
  | zero => intro _; rfl
  | succ n ih =>
    intro h
    unfold latN
    rw [if_neg (h n (by omega))]
    exact ih (fun k hk => h k (by omega))
theorem latN_only {gs : List GV} {nm : List UInt8} {i : Nat} : ∀ (n : Nat), i < n → gs[i]?.map (·.name) = some nm → (∀ k, k < n → k ≠ i → gs[k]?.map (·.name) ≠ some nm) → latN gs nm n = some i := by
  intro n
  induction n with
  | zero => intro h; omega
  | succ n ih =>
    intro hi he hu
    unfold latN
    by_cases e : n = i
    · subst e; rw [if_pos he]
    · rw [if_neg (hu n (by omega) e)]
      exact ih (by omega) he (fun k hk hk2 => hu k (by omega) hk2)
theorem latN_more {gs : List GV} {nm : List UInt8} (m : Nat) : ∀ (n : Nat), m ≤ n → (∀ k, m ≤ k → k < n → gs[k]?.map (·.name) ≠ some nm) → latN gs nm n = latN gs nm m := by
  intro n
  induction n with
  | zero => intro h _; have : m = 0 := by omega
            subst this; rfl
  | succ n ih =>
    intro h hu
    by_cases e : m = n + 1
    · subst e; rfl
    · rw [latN, if_neg (hu n (by omega) (by omega))]
      exact ih (by omega) (fun k h1 h2 => hu k h1 (by omega))
theorem latN_take {gs g2 : List GV} {nm : List UInt8} : ∀ (n : Nat), (∀ k, k < n → gs[k]? = g2[k]?) → latN gs nm n = latN g2 nm n := by
  intro n
  induction n with
  | zero => intro _; rfl
  | succ n ih =>
    intro h
    unfold latN
    rw [h n (by omega), ih (fun k hk => h k (by omega))]

/-- What a reference of a tree is to. -/
def RefB (ms : List MB) (own : List (List UInt8)) (hb : Nat) (nm : List UInt8) (o : Option Nat) : Prop :=
  ∃ k, latB ms nm ms.length = some k ∧ ¬ ((ms.getD k mb0).batch < hb ∧ nm ∈ own) ∧ ∀ n, o = some n → (ms.getD k mb0).job.arr = true ∧ (ms.getD k mb0).job.lo ≤ n ∧ n < (ms.getD k mb0).job.lo + (ms.getD k mb0).count
def AllW (Q : List UInt8 → Option Nat → Prop) : WT → Prop
  | .sg => True
  | .rf _ nm o => Q nm o
  | .an s t => AllW Q s ∧ AllW Q t
  | .or s t => AllW Q s ∧ AllW Q t
theorem askB_some {ms : List MB} {own : List (List UInt8)} {hb c k : Nat} (h : askB ms own hb c = some k) : latB ms (nameL c) ms.length = some k ∧ ¬ ((ms.getD k mb0).batch < hb ∧ (ms.getD k mb0).job.name ∈ own) := by
  unfold askB at h
  split at h
  · simp at h
  · rename_i j hj
    split at h
    · simp at h
    · rename_i hc
      simp at h; subst h
      exact ⟨hj, hc⟩
theorem getD_mem {ms : List MB} {k : Nat} (h : k < ms.length) : ms.getD k mb0 ∈ ms := by
  rw [show ms.getD k mb0 = ms[k] from by simp [h]]
  exact List.getElem_mem h
theorem atomF_ok {ms : List MB} {own : List (List UInt8)} {hb : Nat} {nm T : List UInt8} {i : Nat} (hg : ∀ m ∈ ms, GoodB m) : dpW (atomF ms own hb nm T i).1 = 0 ∧ OkW (atomF ms own hb nm T i).1 ∧ AllW (RefB ms own hb) (atomF ms own hb nm T i).1 := by
  unfold atomF
  split
  · exact ⟨rfl, trivial, trivial⟩
  · rename_i k hk
    obtain ⟨h1, h2⟩ := askB_some hk
    obtain ⟨q1, q2, q3⟩ := latB_some h1
    have g := hg _ (getD_mem q2)
    have gj := g.job
    have g3 := nxV_lt T (nxI T i) (n := 3) (by omega)
    have gc := g.c1
    have gx := nxV_lt T (nxI T (nxI T (nxI T i))) (n := (ms.getD k mb0).count) (by omega)
    have hnm : latB ms (ms.getD k mb0).job.name ms.length = some k := by rw [q3]; exact h1
    split
    · rename_i ha
      have har := gj.arr ha
      have har2 := g.ar ha
      split
      · refine ⟨rfl, ⟨g3, gj.nm, gj.nm1, gj.nm6, ?_⟩, ⟨k, hnm, h2, ?_⟩⟩
        · intro n hn; have hn := Option.some.inj hn; omega
        · intro n hn; have hn := Option.some.inj hn; exact ⟨ha, by omega, by omega⟩
      · exact ⟨rfl, ⟨g3, gj.nm, gj.nm1, gj.nm6, by simp⟩, ⟨k, hnm, h2, by simp⟩⟩
    · exact ⟨rfl, ⟨g3, gj.nm, gj.nm1, gj.nm6, by simp⟩, ⟨k, hnm, h2, by simp⟩⟩
theorem wantB_ok {ms : List MB} {own : List (List UInt8)} {hb : Nat} {nm T : List UInt8} (hg : ∀ m ∈ ms, GoodB m) : ∀ d i, dpW (wantB ms own hb nm T d i).1 ≤ d ∧ OkW (wantB ms own hb nm T d i).1 ∧ AllW (RefB ms own hb) (wantB ms own hb nm T d i).1 := by
  intro d
  induction d with
  | zero =>
    intro i
    unfold wantB
    obtain ⟨a, b, c⟩ := atomF_ok (own := own) (hb := hb) (nm := nm) (T := T) (i := nxI T i) hg
    exact ⟨by omega, b, c⟩
  | succ d ih =>
    intro i
    unfold wantB
    split
    · obtain ⟨a, b, c⟩ := atomF_ok (own := own) (hb := hb) (nm := nm) (T := T) (i := nxI T i) hg
      exact ⟨by omega, b, c⟩
    · obtain ⟨a1, b1, c1⟩ := ih (nxI T i)
      obtain ⟨a2, b2, c2⟩ := ih (wantB ms own hb nm T d (nxI T i)).2.2
      dsimp only
      split
      · exact ⟨by unfold dpW; omega, ⟨b1, b2⟩, ⟨c1, c2⟩⟩
      · exact ⟨by unfold dpW; omega, ⟨b1, b2⟩, ⟨c1, c2⟩⟩
theorem faceB_ok {nodes : Nat} {nm T : List UInt8} {i : Nat} (hn : 1 ≤ nodes) (hn8 : nodes ≤ 8) (h : (∀ c ∈ nm, letB c.toNat = true) ∧ 1 ≤ nm.length ∧ nm.length ≤ 6) :
    JobOK (faceB nodes nm T i).1 ∧ (faceB nodes nm T i).1.name = nm ∧ (faceB nodes nm T i).1.nodes ≤ nodes ∧ 1 ≤ (faceB nodes nm T i).2.1 ∧ (faceB nodes nm T i).2.1 ≤ 6 ∧ ((faceB nodes nm T i).1.arr = true → (faceB nodes nm T i).1.lo + (faceB nodes nm T i).2.1 = (faceB nodes nm T i).1.hi + 1) ∧ ((faceB nodes nm T i).1.arr = false → (faceB nodes nm T i).2.1 = 1) := by
  have a1 := nxV_lt T i (n := nodes) (by omega)
  have a2 := nxV_lt T (nxI T i) (n := 12) (by omega)
  have a3 := nxV_lt T (nxI T (nxI T (nxI T i))) (n := 6) (by omega)
  have a4 := nxV_lt T (nxI T (nxI T (nxI T (nxI T i)))) (n := 3) (by omega)
  unfold faceB
  split
  · refine ⟨⟨h.1, h.2.1, h.2.2, ⟨?_, ?_⟩, ⟨?_, ?_⟩, ?_, ?_⟩, rfl, ?_, ?_, ?_, ?_, ?_⟩
    · show 1 ≤ 1 + nxV T i nodes; omega
    · show 1 + nxV T i nodes ≤ 8; omega
    · show 1 ≤ 1 + nxV T (nxI T i) 12; omega
    · show 1 + nxV T (nxI T i) 12 ≤ 12; omega
    · intro _; refine ⟨?_, ?_, ?_⟩ <;> dsimp only <;> omega
    · intro q; simp at q
    · show 1 + nxV T i nodes ≤ nodes; omega
    · dsimp only; omega
    · dsimp only; omega
    · intro _; dsimp only; omega
    · intro q; simp at q
  · refine ⟨⟨h.1, h.2.1, h.2.2, ⟨?_, ?_⟩, ⟨?_, ?_⟩, ?_, ?_⟩, rfl, ?_, ?_, ?_, ?_, ?_⟩
    · show 1 ≤ 1 + nxV T i nodes; omega
    · show 1 + nxV T i nodes ≤ 8; omega
    · show 1 ≤ 1 + nxV T (nxI T i) 12; omega
    · show 1 + nxV T (nxI T i) 12 ≤ 12; omega
    · intro q; simp at q
    · intro q; exact ⟨rfl, rfl⟩
    · show 1 + nxV T i nodes ≤ nodes; omega
    · dsimp only; omega
    · dsimp only; omega
    · intro q; simp at q
    · intro q; rfl
/-- What is known of a head that has been made. -/
structure HeadOf (ms : List MB) (own : List (List UInt8)) (bn bj nodes k : Nat) (m : MB) : Prop where
  good : GoodB m
  nm : m.job.name = own.getD k []
  nd : m.job.nodes ≤ nodes
  bt : m.batch = bn
  ft : m.first = bj
  rf : ∀ t, m.tree = some t → AllW (RefB ms own bn) t
theorem headB_ok {ms : List MB} {own : List (List UInt8)} {bn bj nodes k : Nat} {T : List UInt8} {i : Nat} (hg : ∀ m ∈ ms, GoodB m) (hn : 1 ≤ nodes) (hn8 : nodes ≤ 8) (hnm : (∀ c ∈ own.getD k [], letB c.toNat = true) ∧ 1 ≤ (own.getD k []).length ∧ (own.getD k []).length ≤ 6) :
    HeadOf ms own bn bj nodes k (headB ms own bn bj nodes k T i).1 := by
  obtain ⟨a1, a2, a3, a4, a5, a6, a7⟩ := faceB_ok (T := T) (i := i) hn hn8 hnm
  unfold headB
  split
  · exact ⟨⟨a1, a4, a5, a6, a7, by intro t ht; simp at ht⟩, a2, a3, rfl, rfl, by intro t ht; simp at ht⟩
  · obtain ⟨b1, b2, b3⟩ := wantB_ok (own := own) (hb := bn) (nm := own.getD k []) (T := T) hg 2 (nxI T (faceB nodes (own.getD k []) T i).2.2)
    refine ⟨⟨a1, a4, a5, a6, a7, ?_⟩, a2, a3, rfl, rfl, ?_⟩
    · intro t ht; simp at ht; subst ht; exact ⟨b1, b2⟩
    · intro t ht; simp at ht; subst ht; exact b3

theorem cntM_app (a b : List MB) : cntM (a ++ b) = cntM a + cntM b := by simp [cntM]
/-- What stands behind i heads of a batch. -/
structure BnI (own : List (List UInt8)) (bn nodes n : Nat) (ms : List MB) (bj i : Nat) (r : BS) (ns : List MB) : Prop where
  mm : r.ms = ms ++ ns
  ln : ns.length = i
  jb : r.jobs = bj + cntM ns
  hd : ∀ k, k < i → HeadOf (ms ++ ns.take k) own bn (bj + cntM (ns.take k)) nodes k (ns.getD k mb0)
theorem batN_ok {ms : List MB} {own : List (List UInt8)} {bn bj nodes n i0 : Nat} {T : List UInt8} (hg : ∀ m ∈ ms, GoodB m) (hn : 1 ≤ nodes) (hn8 : nodes ≤ 8) (hol : own.length = n) (hnm : ∀ k, k < n → (∀ c ∈ own.getD k [], letB c.toNat = true) ∧ 1 ≤ (own.getD k []).length ∧ (own.getD k []).length ≤ 6) (h0 : 0 < n) :
    ∀ i, i ≤ n → ∃ ns, BnI own bn nodes n ms bj i (batN own bn nodes n T ⟨[], ms, bj, i0⟩ i) ns ∧ ∃ js l, BtX own n i (batN own bn nodes n T ⟨[], ms, bj, i0⟩ i).text ns js l := by
  intro i
  induction i with
  | zero => intro _; exact ⟨[], ⟨by simp [batN], rfl, by simp [batN, cntM], fun k hk => by omega⟩, [], [], BtX.zero own h0⟩
  | succ i ih =>
    intro hi
    obtain ⟨ns, B, js, l, X⟩ := ih (by omega)
    have hgo : ∀ m ∈ ms ++ ns, GoodB m := by
      intro m hm
      rcases List.mem_append.1 hm with h | h
      · exact hg m h
      · obtain ⟨k, hk, rfl⟩ := List.getElem_of_mem h
        have := (B.hd k (by rw [← B.ln]; exact hk)).good
        rwa [show ns.getD k mb0 = ns[k] from by simp [hk]] at this
    generalize hr : batN own bn nodes n T ⟨[], ms, bj, i0⟩ i = r at *
    have H := headB_ok (ms := r.ms) (own := own) (bn := bn) (bj := r.jobs) (nodes := nodes) (k := i) (T := T) (i := nxI T r.at_) (by rw [B.mm]; exact hgo) hn hn8 (hnm i (by omega))
    have hon : i < own.length := by omega
    have hown : own.getD i [] = own[i] := by simp [hon]
    have hnmi := hnm i (by omega)
    rw [hown] at hnmi
    obtain ⟨js', l', X'⟩ := X.step (m := (headB r.ms own bn r.jobs nodes i T (nxI T r.at_)).1) (by omega) hon hnmi.1 hnmi.2.2 H.good (by rw [H.nm, hown]) (decide (nxV T r.at_ 4 = 1))
    refine ⟨ns ++ [(headB r.ms own bn r.jobs nodes i T (nxI T r.at_)).1], ⟨?_, by simp [B.ln], ?_, ?_⟩, js', l', ?_⟩
    · unfold batN; rw [hr]; dsimp only; rw [B.mm]; simp
    · unfold batN; rw [hr]; dsimp only; rw [cntM_app, B.jb]; simp [cntM]; omega
    · intro k hk
      by_cases e : k = i
      · subst e
        have e1 : (ns ++ [(headB r.ms own bn r.jobs nodes k T (nxI T r.at_)).1]).take k = ns := by rw [List.take_append_of_le_length (by rw [B.ln]; exact Nat.le_refl _), List.take_of_length_le (by rw [B.ln]; exact Nat.le_refl _)]
        have e2 : (ns ++ [(headB r.ms own bn r.jobs nodes k T (nxI T r.at_)).1]).getD k mb0 = (headB r.ms own bn r.jobs nodes k T (nxI T r.at_)).1 := by
          simp [List.getElem?_append, B.ln]
        rw [e1, e2, ← B.mm, ← B.jb]
        exact H
      · have hk' : k < ns.length := by rw [B.ln]; omega
        have e1 : (ns ++ [(headB r.ms own bn r.jobs nodes i T (nxI T r.at_)).1]).take k = ns.take k := List.take_append_of_le_length (by omega)
        have e2 : (ns ++ [(headB r.ms own bn r.jobs nodes i T (nxI T r.at_)).1]).getD k mb0 = ns.getD k mb0 := by
          simp [List.getElem?_append, hk']
        rw [e1, e2]
        exact B.hd k (by omega)
    · unfold batN; rw [hr, hown]; exact X'
/-- A batch more. -/
structure BatOf (ms : List MB) (bn bj nodes : Nat) (T : List UInt8) (ns : List MB) (hs : List HV) : Prop where
  mm : (batF ms bn bj nodes T).ms = ms ++ ns
  jb : (batF ms bn bj nodes T).jobs = bj + cntM ns
  n1 : 1 ≤ ns.length
  n3 : ns.length ≤ 3
  nn : ∀ k, k < ns.length → (ns.getD k mb0).job.name = (onL (kB T) (nB T)).getD k []
  ol : (onL (kB T) (nB T)).length = ns.length
  nd : (onL (kB T) (nB T)).Nodup
  hd : ∀ k, k < ns.length → HeadOf (ms ++ ns.take k) (onL (kB T) (nB T)) (bn + 1) (bj + cntM (ns.take k)) nodes k (ns.getD k mb0)
  rd : readH (batF ms bn bj nodes T).text = (hs, (0, 0))
  hl : hs.length = ns.length
  hv : ∀ k, k < ns.length → RX (ns.getD k mb0) (hvX (hs.getD k hv0))
theorem batF_ok {ms : List MB} {bn bj nodes : Nat} {T : List UInt8} (hg : ∀ m ∈ ms, GoodB m) (hn : 1 ≤ nodes) (hn8 : nodes ≤ 8) : ∃ ns hs, BatOf ms bn bj nodes T ns hs := by
  have n1 : 1 ≤ nB T := by unfold nB; omega
  have n3 : nB T ≤ 3 := by unfold nB; have := nxV_lt T 0 (n := 3) (by omega); omega
  have k5 : kB T < 5 := by unfold kB; exact nxV_lt _ _ (by omega)
  have hol := onL_len (kB T) (nB T)
  have hnm : ∀ k, k < nB T → (∀ c ∈ (onL (kB T) (nB T)).getD k [], letB c.toNat = true) ∧ 1 ≤ ((onL (kB T) (nB T)).getD k []).length ∧ ((onL (kB T) (nB T)).getD k []).length ≤ 6 := by
    intro k hk
    have hk' : k < (onL (kB T) (nB T)).length := by rw [hol]; exact hk
    rw [show (onL (kB T) (nB T)).getD k [] = (onL (kB T) (nB T))[k] from by simp [hk'], onL_get _ _ _ hk']
    exact nameL_ok _
  obtain ⟨ns, B, js, l, X⟩ := batN_ok (bn := bn + 1) (bj := bj) (i0 := nxI T (nxI T 0)) (T := T) hg hn hn8 hol hnm n1 (nB T) (Nat.le_refl _)
  obtain ⟨hs, r1, r2⟩ := X.reads k5 n3 n1
  have hl : hs.length = ns.length := by
    have := congrArg List.length r2
    rw [List.length_map, X.jlen] at this
    rw [this, B.ln]
  refine ⟨ns, hs, B.mm, B.jb, by rw [B.ln]; exact n1, by rw [B.ln]; exact n3, ?_, by rw [hol, B.ln], onL_nodup k5 n3, ?_, r1, hl, ?_⟩
  · intro k hk; exact (B.hd k (by rw [← B.ln]; exact hk)).nm
  · intro k hk; exact B.hd k (by rw [← B.ln]; exact hk)
  · intro k hk
    have hk2 : k < hs.length := by omega
    have hk3 : k < js.length := by rw [X.jlen, ← B.ln]; exact hk
    have := X.rm k hk hk3
    have e : js[k] = hvX hs[k] := by
      have : js[k]? = (hs.map hvX)[k]? := by rw [r2]
      rw [List.getElem?_eq_getElem hk3, List.getElem?_map, List.getElem?_eq_getElem hk2] at this
      simpa using this
    rw [show ns.getD k mb0 = ns[k] from by simp [hk], show hs.getD k hv0 = hs[k] from by simp [hk2], ← e]
    exact this
end Go.Proofs.YtanknpmojblmcaaGreatDoor

/-
  The book: what each reference means.
-/
set_option linter.unusedSimpArgs false
set_option linter.unusedVariables false
namespace Go.Proofs.YtanknpmojblmcaaGreatDoor

theorem hvX_job {m : MB} {h : HV} (x : RX m (hvX h)) : h.name = m.job.name ∧ h.nodes = m.job.nodes ∧ h.time = m.job.time ∧ h.arr = m.job.arr ∧ h.lo = m.job.lo ∧ h.hi = m.job.hi ∧ h.want.map nps = stM m := by
  obtain ⟨P, e⟩ := x
  unfold hvX at e
  have e1 : jobOf h = _ := congrArg Prod.fst e
  have e2 : h.want.map nps = _ := congrArg Prod.snd e
  unfold jobOf at e1
  injection e1 with q1 q2 q3 q4 q5 q6 q7
  exact ⟨q1, q2, q3, q4, q5, q6, e2⟩
theorem take_snoc (ns : List MB) {n : Nat} (h : n < ns.length) : ns.take (n + 1) = ns.take n ++ [ns.getD n mb0] := by
  rw [List.take_add_one, List.getElem?_eq_getElem h]
  simp [h]
theorem grp_eq {m : MB} {h : HV} {f : Nat} (x : RX m (hvX h)) (g : GoodB m) (hf : m.first = f) : grpH h f = grpM m := by
  obtain ⟨q1, q2, q3, q4, q5, q6, q7⟩ := hvX_job x
  unfold grpH grpM
  rw [q1, q4, q5, q6]
  cases ha : m.job.arr with
  | true =>
    have := g.ar ha
    have e : m.job.hi + 1 - m.job.lo = m.count := by omega
    simp [hf, e]
  | false =>
    have e1 := g.no ha
    have e2 := (g.job.no ha).1
    simp [hf, e1, e2]
variable {ms ns : List MB} {bn bj nodes : Nat} {T : List UInt8} {hs : List HV}
theorem BatOf.groups (B : BatOf ms bn bj nodes T ns hs) : ∀ n, n ≤ ns.length → grpN hs bj n = ((ns.take n).map grpM, bj + cntM (ns.take n)) := by
  intro n
  induction n with
  | zero => intro _; simp [grpN, cntM]
  | succ n ih =>
    intro hn
    have H := B.hd n (by omega)
    have e := grp_eq (f := bj + cntM (ns.take n)) (B.hv n (by omega)) H.good H.ft
    unfold grpN
    rw [ih (by omega)]
    dsimp only
    rw [e, take_snoc ns (by omega), List.map_append, cntM_app]
    have e2 : (grpM (ns.getD n mb0)).count = cntM [ns.getD n mb0] := by simp [grpM, cntM]
    rw [e2, Nat.add_assoc]
    rfl
theorem BatOf.own (B : BatOf ms bn bj nodes T ns hs) : grpF hs bj = ns.map grpM := by
  unfold grpF
  rw [B.hl, B.groups ns.length (Nat.le_refl _), List.take_length]
theorem BatOf.head (B : BatOf ms bn bj nodes T ns hs) {h : HV} (hh : h ∈ hs) : ∃ k, k < ns.length ∧ hs.getD k hv0 = h ∧ RX (ns.getD k mb0) (hvX h) ∧ HeadOf (ms ++ ns.take k) (onL (kB T) (nB T)) (bn + 1) (bj + cntM (ns.take k)) nodes k (ns.getD k mb0) := by
  obtain ⟨k, hk, rfl⟩ := List.getElem_of_mem hh
  have hk2 : k < ns.length := by rw [← B.hl]; exact hk
  have := B.hv k hk2
  rw [show hs.getD k hv0 = hs[k] from by simp [hk]] at this
  exact ⟨k, hk2, by simp [hk], this, B.hd k hk2⟩
theorem wide_none : ∀ (hs : List HV), (∀ h ∈ hs, h.nodes ≤ nodes) → wideF nodes hs = none := by
  intro hs
  induction hs with
  | nil => intro _; rfl
  | cons h r ih =>
    intro q
    unfold wideF
    rw [if_neg (by have := q h (by simp); omega)]
    exact ih (fun x hx => q x (by simp [hx]))
theorem BatOf.wide (B : BatOf ms bn bj nodes T ns hs) : wideF nodes hs = none := by
  refine wide_none hs ?_
  intro h hh
  obtain ⟨k, _, _, h3, h4⟩ := B.head hh
  rw [(hvX_job h3).2.1]
  exact h4.nd

/-- The steps of a tree. -/
theorem stW_mem (Q : List UInt8 → Option Nat → Prop) : ∀ (t : WT), AllW Q t → (∀ y ∈ stW t, y = jS 4 ∨ y = jS 5 ∨ y = jS 6 ∨ ∃ k nm o, y = (k + 1, nm, Option.isSome o, Option.getD o 0) ∧ Q nm o) ∧ (∀ l ∈ fcW t, ∀ y ∈ l, y = jS 4 ∨ y = jS 5 ∨ y = jS 6 ∨ ∃ k nm o, y = (k + 1, nm, Option.isSome o, Option.getD o 0) ∧ Q nm o) := by
  intro t
  induction t with
  | sg =>
    intro _
    constructor
    · intro y hy
      simp only [stW, List.mem_singleton] at hy
      exact Or.inl hy
    · intro l hl y hy
      simp only [fcW, List.mem_singleton] at hl
      subst hl
      simp only [List.mem_singleton] at hy
      exact Or.inl hy
  | rf k nm o =>
    intro h
    constructor
    · intro y hy
      simp only [stW, List.mem_singleton] at hy
      exact Or.inr (Or.inr (Or.inr ⟨k, nm, o, hy, h⟩))
    · intro l hl y hy
      simp only [fcW, List.mem_singleton] at hl
      subst hl
      simp only [List.mem_singleton] at hy
      exact Or.inr (Or.inr (Or.inr ⟨k, nm, o, hy, h⟩))
  | an s t ihs iht =>
    intro h
    have hs := ihs h.1
    have ht := iht h.2
    have tl : ∀ (F : List (List SX)), (∀ l ∈ F, ∀ y ∈ l, y = jS 4 ∨ y = jS 5 ∨ y = jS 6 ∨ ∃ k nm o, y = (k + 1, nm, Option.isSome o, Option.getD o 0) ∧ Q nm o) → ∀ y ∈ tlS 5 F, y = jS 4 ∨ y = jS 5 ∨ y = jS 6 ∨ ∃ k nm o, y = (k + 1, nm, Option.isSome o, Option.getD o 0) ∧ Q nm o := by
      intro F
      induction F with
      | nil => intro _ y hy; simp [tlS] at hy
      | cons a r ih =>
        intro hF y hy
        simp only [tlS, List.mem_append, List.mem_cons] at hy
        rcases hy with hy | hy | hy
        · exact hF a (by simp) y hy
        · exact Or.inr (Or.inl hy)
        · exact ih (fun l hl => hF l (by simp [hl])) y hy
    constructor
    · intro y hy
      simp only [stW, List.mem_append] at hy
      rcases hy with hy | hy
      · exact hs.1 y hy
      · exact tl _ ht.2 y hy
    · intro l hl y hy
      simp only [fcW, List.mem_cons] at hl
      rcases hl with rfl | hl
      · exact hs.1 y hy
      · exact ht.2 l hl y hy
  | or s t ihs iht =>
    intro h
    have hs := ihs h.1
    have ht := iht h.2
    have a : ∀ y ∈ stW s ++ (stW t ++ [jS 6]), y = jS 4 ∨ y = jS 5 ∨ y = jS 6 ∨ ∃ k nm o, y = (k + 1, nm, Option.isSome o, Option.getD o 0) ∧ Q nm o := by
      intro y hy
      simp only [List.mem_append, List.mem_singleton] at hy
      rcases hy with hy | hy | hy
      · exact hs.1 y hy
      · exact ht.1 y hy
      · exact Or.inr (Or.inr (Or.inl hy))
    constructor
    · intro y hy; simp only [stW] at hy; exact a y hy
    · intro l hl y hy
      simp only [fcW, List.mem_singleton] at hl
      subst hl
      exact a y hy
theorem stW_len : ∀ (t : WT) (d : Nat), dpW t ≤ d → (stW t).length + 1 ≤ 2 ^ (d + 1) ∧ (tlS 5 (fcW t)).length ≤ 2 ^ (d + 1) := by
  intro t
  induction t with
  | sg => intro d _; have := Nat.one_le_two_pow (n := d); simp [stW, fcW, tlS, Nat.pow_succ]; omega
  | rf k nm o => intro d _; have := Nat.one_le_two_pow (n := d); simp [stW, fcW, tlS, Nat.pow_succ]; omega
  | an s t ihs iht =>
    intro d hd
    unfold dpW at hd
    obtain ⟨e, rfl⟩ : ∃ e, d = e + 1 := ⟨d - 1, by omega⟩
    have a := ihs e (by omega)
    have b := iht e (by omega)
    have q : 2 ^ (e + 1 + 1) = 2 ^ (e + 1) + 2 ^ (e + 1) := by rw [Nat.pow_succ]; omega
    simp only [stW, fcW, tlS, List.length_append, List.length_cons]
    omega
  | or s t ihs iht =>
    intro d hd
    unfold dpW at hd
    obtain ⟨e, rfl⟩ : ∃ e, d = e + 1 := ⟨d - 1, by omega⟩
    have a := ihs e (by omega)
    have b := iht e (by omega)
    have q : 2 ^ (e + 1 + 1) = 2 ^ (e + 1) + 2 ^ (e + 1) := by rw [Nat.pow_succ]; omega
    simp only [stW, fcW, tlS, List.length_append, List.length_cons, List.length_nil]
    omega

/-- What a reference of the k-th head is to. -/
theorem BatOf.meant (B : BatOf ms bn bj nodes T ns hs) (hb : ∀ m ∈ ms, m.batch ≤ bn) {k : Nat} (hk : k < ns.length) {nm : List UInt8} {o : Option Nat} (r : RefB (ms ++ ns.take k) (onL (kB T) (nB T)) (bn + 1) nm o) :
    existsG (meantG (ms.map grpM) (ns.map grpM) nm) o.isSome (o.getD 0) = true ∧ ∀ i, latN (ns.map grpM) nm ns.length = some i → i < k := by
  obtain ⟨x, h1, h2, h3⟩ := r
  have hl : (ms ++ ns.take k).length = ms.length + k := by simp; omega
  obtain ⟨q1, q2, q3⟩ := latB_some h1
  rw [hl] at q1 q2
  have hnn := B.nn
  have hol := B.ol
  have hname : ∀ j, j < ns.length → (ns.map grpM)[j]?.map (·.name) = some ((onL (kB T) (nB T)).getD j []) := by
    intro j hj
    rw [List.getElem?_map, List.getElem?_eq_getElem hj, ← hnn j hj]
    simp [hj, grpM]
  have huniq : ∀ i j, i < ns.length → j < ns.length → (onL (kB T) (nB T)).getD i [] = (onL (kB T) (nB T)).getD j [] → i = j := by
    intro i j hi hj he
    have hi' : i < (onL (kB T) (nB T)).length := by omega
    have hj' : j < (onL (kB T) (nB T)).length := by omega
    rw [show (onL (kB T) (nB T)).getD i [] = (onL (kB T) (nB T))[i] from by simp [hi'], show (onL (kB T) (nB T)).getD j [] = (onL (kB T) (nB T))[j] from by simp [hj']] at he
    have hp := List.pairwise_iff_getElem.mp B.nd
    rcases Nat.lt_trichotomy i j with q | q | q
    · exact absurd he (hp i j hi' hj' q)
    · exact q
    · exact absurd he.symm (hp j i hj' hi' q)
  have hex : ∀ g : MB, (ms ++ ns.take k).getD x mb0 = g → existsG (some (grpM g)) o.isSome (o.getD 0) = true := by
    intro g hg
    rw [hg] at h3
    unfold existsG
    cases o with
    | none => simp
    | some n =>
      obtain ⟨a, b, c⟩ := h3 n rfl
      simp [grpM, a]
      omega
  by_cases hx : x < ms.length
  · have e : (ms ++ ns.take k).getD x mb0 = ms.getD x mb0 := by simp [List.getElem?_append, hx]
    rw [e] at h2 q3
    have hbx := hb _ (getD_mem hx)
    have hno : nm ∉ onL (kB T) (nB T) := fun q => h2 ⟨by omega, q⟩
    have hn : latN (ns.map grpM) nm ns.length = none := by
      refine latN_none _ ?_
      intro j hj he
      rw [hname j hj] at he
      have he := Option.some.inj he
      apply hno
      have hj' : j < (onL (kB T) (nB T)).length := by omega
      rw [← he, show (onL (kB T) (nB T)).getD j [] = (onL (kB T) (nB T))[j] from by simp [hj']]
      exact List.getElem_mem hj'
    have hm : latN (ms.map grpM) nm (ms.map grpM).length = some x := by
      rw [latB_latN, hl] at h1
      rw [latN_more ms.length (ms.length + k) (by omega)] at h1
      · rw [List.length_map, ← h1]
        refine latN_take _ ?_
        intro j hj
        rw [List.map_append, List.getElem?_append_left (by simpa using hj)]
      · intro j j1 j2 he
        rw [List.map_append, List.getElem?_append_right (by simpa using j1), List.length_map] at he
        have hj : j - ms.length < k := by omega
        have e2 : ((ns.take k).map grpM)[j - ms.length]? = (ns.map grpM)[j - ms.length]? := by
          rw [List.map_take, List.getElem?_take_of_lt hj]
        rw [e2, hname _ (by omega)] at he
        have he := Option.some.inj he
        apply hno
        have hj' : j - ms.length < (onL (kB T) (nB T)).length := by omega
        rw [← he, show (onL (kB T) (nB T)).getD (j - ms.length) [] = (onL (kB T) (nB T))[j - ms.length] from by simp [hj']]
        exact List.getElem_mem hj'
    refine ⟨?_, fun i hi => by rw [hn] at hi; simp at hi⟩
    unfold meantG
    rw [List.length_map, hn]
    dsimp only
    rw [hm]
    dsimp only
    rw [List.getElem?_map, List.getElem?_eq_getElem hx]
    exact hex ms[x] (by rw [e]; simp [hx])
  · have hi : x - ms.length < k := by omega
    have e : (ms ++ ns.take k).getD x mb0 = ns.getD (x - ms.length) mb0 := by
      simp only [List.getD_eq_getElem?_getD]
      rw [List.getElem?_append_right (by omega), List.getElem?_take_of_lt hi]
    rw [e] at q3
    have hm : latN (ns.map grpM) nm ns.length = some (x - ms.length) := by
      refine latN_only _ (by omega) ?_ ?_
      · rw [hname _ (by omega), ← hnn _ (by omega), q3]
      · intro j hj hne he
        rw [hname _ hj] at he
        have he := Option.some.inj he
        apply hne
        refine huniq j _ hj (by omega) ?_
        rw [he, ← hnn _ (by omega), q3]
    refine ⟨?_, fun i hi2 => by rw [hm] at hi2; have := Option.some.inj hi2; omega⟩
    unfold meantG
    rw [List.length_map, hm]
    dsimp only
    have hlt : x - ms.length < ns.length := by omega
    rw [List.getElem?_map, List.getElem?_eq_getElem hlt]
    exact hex ns[x - ms.length] (by rw [e]; simp [hlt])
theorem hasR_jS {y : Stp} {n : Nat} (h : nps y = jS n) (hn : 4 ≤ n) : hasR y = false := by
  have e : y.op = n := congrArg Prod.fst h
  unfold hasR
  simp
  omega
/-- The steps of the k-th head that are references. -/
theorem BatOf.step (B : BatOf ms bn bj nodes T ns hs) (hb : ∀ m ∈ ms, m.batch ≤ bn) {k : Nat} (hk : k < ns.length) {y : Stp} (hy : y ∈ (hs.getD k hv0).want) : (1 ≤ y.op ∧ y.op ≤ 6 ∧ y.num ≤ 12) ∧ (hasR y = true → existsG (meantG (ms.map grpM) (ns.map grpM) y.name) y.nbd y.num = true ∧ ∀ i, latN (ns.map grpM) y.name ns.length = some i → i < k) := by
  have H := B.hd k hk
  have hv := B.hv k hk
  obtain ⟨_, _, _, _, _, _, q7⟩ := hvX_job hv
  have hm : nps y ∈ stM (ns.getD k mb0) := by rw [← q7]; exact List.mem_map_of_mem hy
  unfold stM at hm
  cases ht : (ns.getD k mb0).tree with
  | none => rw [ht] at hm; simp at hm
  | some t =>
    rw [ht] at hm
    have hm : nps y ∈ stW t := hm
    have ok := (H.good.tr t ht).2
    have two : ∀ (t : WT), OkW t → AllW (RefB (ms ++ ns.take k) (onL (kB T) (nB T)) (bn + 1)) t → AllW (fun nm o => RefB (ms ++ ns.take k) (onL (kB T) (nB T)) (bn + 1) nm o ∧ ∀ n, o = some n → n ≤ 12) t := by
      intro t
      induction t with
      | sg => intro _ _; trivial
      | rf k nm o => intro a b; exact ⟨b, a.2.2.2.2⟩
      | an s t ih1 ih2 => intro a b; exact ⟨ih1 a.1 b.1, ih2 a.2 b.2⟩
      | or s t ih1 ih2 => intro a b; exact ⟨ih1 a.1 b.1, ih2 a.2 b.2⟩
    have kk : ∀ (t : WT), OkW t → ∀ y ∈ stW t, 1 ≤ y.1 ∧ y.1 ≤ 6 := by
      intro t ot
      have : ∀ (t : WT), OkW t → (∀ y ∈ stW t, 1 ≤ y.1 ∧ y.1 ≤ 6) ∧ ∀ l ∈ fcW t, ∀ y ∈ l, 1 ≤ y.1 ∧ y.1 ≤ 6 := by
        intro t
        induction t with
        | sg =>
          intro _
          constructor
          · intro y hy; simp only [stW, List.mem_singleton] at hy; subst hy; simp [jS]
          · intro l hl y hy; simp only [fcW, List.mem_singleton] at hl; subst hl; simp only [List.mem_singleton] at hy; subst hy; simp [jS]
        | rf k nm o =>
          intro a
          have := a.1
          constructor
          · intro y hy; simp only [stW, List.mem_singleton] at hy; subst hy; dsimp only; omega
          · intro l hl y hy; simp only [fcW, List.mem_singleton] at hl; subst hl; simp only [List.mem_singleton] at hy; subst hy; dsimp only; omega
        | an s t ih1 ih2 =>
          intro a
          have a1 := ih1 a.1
          have a2 := ih2 a.2
          have tl : ∀ (F : List (List SX)), (∀ l ∈ F, ∀ y ∈ l, 1 ≤ y.1 ∧ y.1 ≤ 6) → ∀ y ∈ tlS 5 F, 1 ≤ y.1 ∧ y.1 ≤ 6 := by
            intro F
            induction F with
            | nil => intro _ y hy; simp [tlS] at hy
            | cons a r ih =>
              intro hF y hy
              simp only [tlS, List.mem_append, List.mem_cons] at hy
              rcases hy with hy | hy | hy
              · exact hF a (by simp) y hy
              · subst hy; simp [jS]
              · exact ih (fun l hl => hF l (by simp [hl])) y hy
          constructor
          · intro y hy
            simp only [stW, List.mem_append] at hy
            rcases hy with hy | hy
            · exact a1.1 y hy
            · exact tl _ a2.2 y hy
          · intro l hl y hy
            simp only [fcW, List.mem_cons] at hl
            rcases hl with rfl | hl
            · exact a1.1 y hy
            · exact a2.2 l hl y hy
        | or s t ih1 ih2 =>
          intro a
          have a1 := ih1 a.1
          have a2 := ih2 a.2
          have b : ∀ y ∈ stW s ++ (stW t ++ [jS 6]), 1 ≤ y.1 ∧ y.1 ≤ 6 := by
            intro y hy
            simp only [List.mem_append, List.mem_singleton] at hy
            rcases hy with hy | hy | hy
            · exact a1.1 y hy
            · exact a2.1 y hy
            · subst hy; simp [jS]
          constructor
          · intro y hy; simp only [stW] at hy; exact b y hy
          · intro l hl y hy; simp only [fcW, List.mem_singleton] at hl; subst hl; exact b y hy
      exact (this t ot).1
    have k1 := kk t ok _ hm
    have k2 : 1 ≤ y.op ∧ y.op ≤ 6 := k1
    rcases (stW_mem _ t (two t ok (H.rf t ht))).1 _ hm with e | e | e | ⟨j, nm, o, e, r, rn⟩
    · exact ⟨⟨k2.1, k2.2, by have : y.num = 0 := congrArg (fun z : SX => z.2.2.2) e; omega⟩, fun q => by rw [hasR_jS e (by omega)] at q; simp at q⟩
    · exact ⟨⟨k2.1, k2.2, by have : y.num = 0 := congrArg (fun z : SX => z.2.2.2) e; omega⟩, fun q => by rw [hasR_jS e (by omega)] at q; simp at q⟩
    · exact ⟨⟨k2.1, k2.2, by have : y.num = 0 := congrArg (fun z : SX => z.2.2.2) e; omega⟩, fun q => by rw [hasR_jS e (by omega)] at q; simp at q⟩
    · have e1 : y.name = nm := congrArg (fun z : SX => z.2.1) e
      have e2 : y.nbd = o.isSome := congrArg (fun z : SX => z.2.2.1) e
      have e3 : y.num = o.getD 0 := congrArg (fun z : SX => z.2.2.2) e
      refine ⟨⟨k2.1, k2.2, ?_⟩, fun _ => ?_⟩
      · rw [e3]
        cases o with
        | none => simp
        | some n => exact rn n rfl
      · rw [e1, e2, e3]
        exact B.meant hb hk r
end Go.Proofs.YtanknpmojblmcaaGreatDoor

/-
  The book: a batch more is taken, or is one too many.
-/
set_option linter.unusedSimpArgs false
set_option linter.unusedVariables false
namespace Go.Proofs.YtanknpmojblmcaaGreatDoor

variable {ms ns : List MB} {bn bj nodes : Nat} {T : List UInt8} {hs : List HV}
theorem miss_no {before own : List GV} : ∀ (hs : List HV), (∀ h ∈ hs, ∀ y ∈ h.want, hasR y = true → exS before own y = true) → missH before own hs = none := by
  have hS : ∀ (S : List Stp), (∀ y ∈ S, hasR y = true → exS before own y = true) → missS before own S = none := by
    intro S
    induction S with
    | nil => intro _; rfl
    | cons z r ih =>
      intro h
      unfold missS
      rw [if_neg (fun q => by have := h z (by simp) q.1; rw [this] at q; exact absurd q.2 (by decide))]
      exact ih (fun y hy => h y (by simp [hy]))
  intro hs
  induction hs with
  | nil => intro _; rfl
  | cons h r ih =>
    intro q
    unfold missH
    rw [hS h.want (q h (by simp))]
    exact ih (fun x hx => q x (by simp [hx]))
theorem BatOf.miss (B : BatOf ms bn bj nodes T ns hs) (hb : ∀ m ∈ ms, m.batch ≤ bn) : missH (ms.map grpM) (ns.map grpM) hs = none := by
  refine miss_no hs ?_
  intro h hh y hy hr
  obtain ⟨k, hk, e, _, _⟩ := B.head hh
  rw [← e] at hy
  exact ((B.step hb hk hy).2 hr).1
theorem wayN_len' (ws : List (List Nat)) : (waysF ws).length = ws.length := (wayN_len ws ws.length).2
theorem ring_free (ws : List (List Nat)) (h : ∀ i, i < ws.length → ∀ k ∈ ws.getD i [], k < i) : ringF ws = [] := by
  obtain ⟨h1, h2, h3⟩ := ways_spec ws
  have key : ∀ n i, i < n → i < ws.length → (waysF ws).getD i 0 < 0 := by
    intro n
    induction n with
    | zero => intro i hi; omega
    | succ n ih =>
      intro i hi hl
      rcases Int.lt_or_le ((waysF ws).getD i 0) 0 with q | q
      · exact q
      · obtain ⟨k, k1, k2, k3⟩ := h3 i hl q
        have hk := h i hl k k1
        have := (h2 k (by omega)).mp (ih k (by omega) (by omega))
        rw [this] at k3
        simp at k3
  unfold ringF
  rw [if_pos]
  rcases stuckF_spec (waysF ws) 0 with q | ⟨k, k1, k2, k3⟩
  · exact q
  · rw [wayN_len'] at k1
    have := key (k + 1) k (by omega) k1
    omega
theorem waitS_mem {own : List GV} : ∀ (S : List Stp) (i : Nat), i ∈ waitS own S → ∃ y ∈ S, hasR y = true ∧ latN own y.name own.length = some i := by
  intro S
  induction S with
  | nil => intro i h; simp [waitS] at h
  | cons x r ih =>
    intro i h
    unfold waitS at h
    split at h
    · rename_i hr
      split at h
      · rename_i j hj
        rcases List.mem_cons.1 h with e | e
        · subst e; exact ⟨x, by simp, hr, hj⟩
        · obtain ⟨y, h1, h2⟩ := ih i e; exact ⟨y, by simp [h1], h2⟩
      · obtain ⟨y, h1, h2⟩ := ih i h; exact ⟨y, by simp [h1], h2⟩
    · obtain ⟨y, h1, h2⟩ := ih i h; exact ⟨y, by simp [h1], h2⟩
theorem BatOf.ring (B : BatOf ms bn bj nodes T ns hs) (hb : ∀ m ∈ ms, m.batch ≤ bn) : ringF (waitsL (ns.map grpM) hs) = [] := by
  refine ring_free _ ?_
  intro i hi k hk
  have hi2 : i < hs.length := by simpa [waitsL] using hi
  have hi3 : i < ns.length := by rw [← B.hl]; exact hi2
  have e : (waitsL (ns.map grpM) hs).getD i [] = waitS (ns.map grpM) (hs.getD i hv0).want := by simp [waitsL, hi2]
  rw [e] at hk
  obtain ⟨y, h1, h2, h3⟩ := waitS_mem _ _ hk
  rw [List.length_map] at h3
  exact ((B.step hb hi3 h1).2 h2).2 k h3

/-- The jobs that heads are written for. -/
def jobsM (ms : List MB) : List (Nat × Nat) := ms.flatMap fun m => List.replicate m.count (m.job.nodes, m.job.time)
theorem jobsM_app (a b : List MB) : jobsM (a ++ b) = jobsM a ++ jobsM b := by simp [jobsM]
theorem jobsM_len (ms : List MB) : (jobsM ms).length = cntM ms := by
  induction ms with
  | nil => rfl
  | cons m r ih =>
    have : jobsM (m :: r) = List.replicate m.count (m.job.nodes, m.job.time) ++ jobsM r := by simp [jobsM]
    rw [this, List.length_append, ih]
    simp [cntM]
def ntJ (j : PJ) : Nat × Nat := (j.nd, j.tm)
/-- A new job. -/
def NewJ (nodes : Nat) (x : PJ) : Prop := x.st = 0 ∧ x.sa = -1 ∧ x.en = -1 ∧ 1 ≤ x.tm ∧ x.tm ≤ 12 ∧ x.nd ≤ nodes ∧ x.code.length ≤ 8000
theorem earlG_ct (gs : List GV) (nm : List UInt8) : (earlG gs nm).length ≤ cntG gs := by
  induction gs with
  | nil => simp [earlG, cntG]
  | cons g r ih =>
    have e : earlG (g :: r) nm = (if g.name = nm then (List.range g.count).map (g.first + ·) else []) ++ earlG r nm := by simp [earlG]
    rw [e, List.length_append]
    have : cntG (g :: r) = g.count + cntG r := by simp [cntG]
    split
    · simp; omega
    · simp; omega
theorem cntG_map (ms : List MB) : cntG (ms.map grpM) = cntM ms := by
  unfold cntG cntM
  rw [List.map_map]; rfl
theorem jobsG_ct {before own : List GV} {nm : List UInt8} {nbd : Bool} {num c : Nat} (h1 : ∀ g ∈ before, g.count ≤ c) (h2 : ∀ g ∈ own, g.count ≤ c) (hc : 1 ≤ c) : (jobsG (meantG before own nm) nbd num).length ≤ c := by
  unfold jobsG
  cases e : meantG before own nm with
  | none => simp
  | some g =>
    dsimp only
    split
    · simpa using hc
    · simp
      rcases meant_mem e with q | q
      · exact h2 g q
      · exact h1 g q
theorem code_len {before own : List GV} {h : HV} (h0 : cntG before ≤ 24) (h1 : ∀ g ∈ before, g.count ≤ 24) (h2 : ∀ g ∈ own, g.count ≤ 24) (hw : h.want.length ≤ 100) : (codeF before own h).length ≤ 8000 := by
  have step : ∀ x, (stepC before own h.name x).length ≤ 73 := by
    intro x
    unfold stepC
    split
    · simp
    split
    · have := askAll_len 4 (earlG before h.name)
      have := earlG_ct before h.name
      omega
    · have := askAll_len x.op (jobsG (meantG before own x.name) x.nbd x.num)
      have := jobsG_ct (nm := x.name) (nbd := x.nbd) (num := x.num) h1 h2 (by omega)
      omega
  have : ∀ n, (codeN before own h n).length ≤ 73 * n := by
    intro n
    induction n with
    | zero => simp [codeN]
    | succ n ih =>
      unfold codeN
      rw [List.length_append]
      have := step (h.want.getD n (stp 0))
      omega
  unfold codeF
  split
  · simp
  · have := this h.want.length
    omega
theorem BatOf.wlen (B : BatOf ms bn bj nodes T ns hs) {k : Nat} (hk : k < ns.length) : (hs.getD k hv0).want.length ≤ 100 := by
  have H := B.hd k hk
  obtain ⟨_, _, _, _, _, _, q7⟩ := hvX_job (B.hv k hk)
  have : (hs.getD k hv0).want.length = (stM (ns.getD k mb0)).length := by rw [← q7, List.length_map]
  rw [this]
  unfold stM
  cases ht : (ns.getD k mb0).tree with
  | none => simp
  | some t =>
    have := stW_len t 2 (H.good.tr t ht).1
    show (stW t).length ≤ 100
    omega
theorem BatOf.takes (B : BatOf ms bn bj nodes T ns hs) (hg : ∀ m ∈ ms, GoodB m) {p : PS} (hp : p.gs = ms.map grpM) (hc : cntM ms ≤ 24) (hn8 : nodes ≤ 8) : ∀ n, n ≤ ns.length → ∃ L, takeN p (ns.map grpM) hs n = p.js ++ L ∧ L.map ntJ = jobsM (ns.take n) ∧ ∀ x ∈ L, NewJ nodes x := by
  intro n
  induction n with
  | zero => intro _; exact ⟨[], by simp [takeN], by simp [jobsM], by simp⟩
  | succ n ih =>
    intro hn
    obtain ⟨L, h1, h2, h3⟩ := ih (by omega)
    have hv := B.hv n (by omega)
    have H := B.hd n (by omega)
    obtain ⟨q1, q2, q3, q4, q5, q6, q7⟩ := hvX_job hv
    have hgn : (ns.map grpM).getD n noG = grpM (ns.getD n mb0) := by
      have : n < ns.length := by omega
      simp [this]
    unfold takeN
    rw [h1, hgn]
    refine ⟨L ++ List.replicate (grpM (ns.getD n mb0)).count (newJ (codeF p.gs (ns.map grpM) (hs.getD n hv0)) (hs.getD n hv0).nodes (hs.getD n hv0).time), by simp, ?_, ?_⟩
    · rw [List.map_append, h2, take_snoc ns (by omega), jobsM_app, List.map_replicate]
      have e : jobsM [ns.getD n mb0] = List.replicate (ns.getD n mb0).count ((ns.getD n mb0).job.nodes, (ns.getD n mb0).job.time) := by unfold jobsM; rw [List.flatMap_cons]; simp
      rw [e, q2, q3]
      rfl
    · intro x hx
      rcases List.mem_append.1 hx with hx | hx
      · exact h3 x hx
      · have e := (List.mem_replicate.1 hx).2
        subst e
        have hnd := H.nd
        have htm := H.good.job.time
        refine ⟨rfl, rfl, rfl, ?_, ?_, ?_, ?_⟩
        · show 1 ≤ (hs.getD n hv0).time; rw [q3]; exact htm.1
        · show (hs.getD n hv0).time ≤ 12; rw [q3]; exact htm.2
        · show (hs.getD n hv0).nodes ≤ nodes; rw [q2]; exact hnd
        · refine code_len ?_ ?_ ?_ (B.wlen (by omega))
          · rw [hp, cntG_map]; exact hc
          · rw [hp]
            intro g hg'
            obtain ⟨m, hm, rfl⟩ := List.mem_map.1 hg'
            have := (hg m hm).c6
            show m.count ≤ 24
            omega
          · intro g hg'
            obtain ⟨m, hm, rfl⟩ := List.mem_map.1 hg'
            obtain ⟨j, hj, rfl⟩ := List.getElem_of_mem hm
            have := (B.hd j hj).good.c6
            rw [show ns.getD j mb0 = ns[j] from by simp [hj]] at this
            show ns[j].count ≤ 24
            omega

/-- A system and the book of what it was given. -/
structure WI (p : PS) (ms : List MB) (bn bj : Nat) : Prop where
  st : Stl p
  bk : BkOK ms bn bj
  gs : p.gs = ms.map grpM
  jn : p.js.map ntJ = jobsM ms
theorem WI.len {p : PS} (h : WI p ms bn bj) : p.js.length = bj := by
  have := congrArg List.length h.jn
  rw [List.length_map, jobsM_len, h.bk.cnt] at this
  exact this
theorem getD_app {a b : List PJ} {i : Nat} : (a ++ b).getD i pj0 = if i < a.length then a.getD i pj0 else b.getD (i - a.length) pj0 := by
  simp only [List.getD_eq_getElem?_getD]
  split
  · rw [List.getElem?_append_left ‹_›]
  · rw [List.getElem?_append_right (by omega)]
theorem getD_in {L : List PJ} {i : Nat} (h : i < L.length) : L.getD i pj0 ∈ L := by
  rw [getD_get h]; exact List.getElem_mem h
/-- New jobs behind the others. -/
theorem take_pok {p : PS} (h : Stl p) {L : List PJ} (hL : ∀ x ∈ L, NewJ p.nodes x) (hl : p.js.length + L.length ≤ 24) {G : List GV} : POK { p with js := p.js ++ L, gs := G } ∧ Fitg p.nodes p.now (p.js ++ L) := by
  have hsum : sumT (p.js ++ L) = sumT p.js := by
    have : (L.map wtJ).sum ≤ 0 * L.length := sum_le wtJ 0 L (fun j hj => by unfold wtJ; rw [if_pos (hL j hj).1]; omega)
    unfold sumT
    rw [List.map_append, List.sum_append]
    omega
  have hcq : cntQ (p.js ++ L) = cntQ p.js := by
    have : (L.map cQ).sum ≤ 0 * L.length := sum_le cQ 0 L (fun j hj => by unfold cQ; rw [if_neg (by rw [(hL j hj).1]; omega)]; omega)
    unfold cntQ
    rw [List.map_append, List.sum_append]
    omega
  have hn := h.ok.n
  have hq := h.ok.q
  have n0 := h.f.n0
  refine ⟨⟨⟨?_, by simpa using hl, hn.nd, hn.lo, hn.hi, ?_, ?_⟩, ⟨?_, ?_, hq.nd, ?_, ?_⟩⟩, ⟨n0, ?_, ?_⟩⟩
  · intro j hj
    rcases List.mem_append.1 hj with hj | hj
    · exact hn.js j hj
    · obtain ⟨a, b, c, d, e, f, g⟩ := hL j hj
      exact ⟨by omega, by have := hn.nd; omega, by omega, by omega, g⟩
  · intro j hj
    show j.sa ≤ p.now + (sumT (p.js ++ L) : Int)
    rw [hsum]
    rcases List.mem_append.1 hj with hj | hj
    · exact hn.sa j hj
    · obtain ⟨a, b, c⟩ := hL j hj
      omega
  · intro j hj hh
    show overJ j ≤ p.now + (sumT (p.js ++ L) : Int)
    rw [hsum]
    rcases List.mem_append.1 hj with hj | hj
    · exact hn.ov j hj hh
    · have := (hL j hj).1
      unfold hasS at hh
      rw [this] at hh
      simp at hh
  · intro i hi
    have := hq.lt i hi
    show i < (p.js ++ L).length
    simp; omega
  · intro i hi
    show ((p.js ++ L).getD i pj0).st = 1
    rw [getD_app, if_pos (hq.lt i hi)]
    exact hq.q1 i hi
  · intro i hi hs
    change ((p.js ++ L).getD i pj0).st = 1 at hs
    have hi : i < (p.js ++ L).length := hi
    rw [getD_app] at hs
    split at hs
    · exact hq.al i ‹_› hs
    · have := (hL _ (getD_in (L := L) (i := i - p.js.length) (by simp at hi; omega))).1
      omega
  · show p.qs.length ≤ cntQ (p.js ++ L)
    rw [hcq]; exact hq.cn
  · intro i hi
    rw [getD_app]
    split
    · exact h.f.t i ‹_›
    · obtain ⟨a, b, c, d, e, f, g⟩ := hL _ (getD_in (L := L) (i := i - p.js.length) (by simp at hi; omega))
      exact ⟨d, f, fun _ => ⟨b, c⟩, fun q => by omega, fun q => by omega, fun q => by omega, fun q => by omega, fun q => by omega, fun q => by omega⟩
  · intro m hm
    have : (L.map (wnA m)).sum ≤ 0 * L.length := sum_le (wnA m) 0 L (fun j hj => by
      rw [wnA_no]
      · omega
      · intro q; have := q.1; unfold hasS at this; rw [(hL j hj).1] at this; simp at this)
    have h2 := h.f.c m hm
    unfold totL at h2 ⊢
    rw [List.map_append, List.sum_append]
    omega
theorem BatOf.bk (B : BatOf ms bn bj nodes T ns hs) (h : BkOK ms bn bj) : BkOK (ms ++ ns) (bn + 1) (bj + cntM ns) := by
  refine ⟨?_, ?_, by rw [cntM_app, h.cnt], ?_⟩
  · intro m hm
    rcases List.mem_append.1 hm with q | q
    · exact h.good m q
    · obtain ⟨j, hj, rfl⟩ := List.getElem_of_mem q
      have := (B.hd j hj).good
      rwa [show ns.getD j mb0 = ns[j] from by simp [hj]] at this
  · intro m hm
    rcases List.mem_append.1 hm with q | q
    · have := h.bat m q; omega
    · obtain ⟨j, hj, rfl⟩ := List.getElem_of_mem q
      have := (B.hd j hj).bt
      rw [show ns.getD j mb0 = ns[j] from by simp [hj]] at this
      omega
  · intro k hk
    by_cases q : k < ms.length
    · rw [show (ms ++ ns).getD k mb0 = ms.getD k mb0 from by simp [List.getElem?_append, q], List.take_append_of_le_length (by omega)]
      exact h.fst k q
    · have hk2 : k - ms.length < ns.length := by simp at hk; omega
      have e : (ms ++ ns).getD k mb0 = ns.getD (k - ms.length) mb0 := by
        simp only [List.getD_eq_getElem?_getD]
        rw [List.getElem?_append_right (by omega)]
      rw [e, (B.hd _ hk2).ft, List.take_append, List.take_of_length_le (l := ms) (i := k) (by omega), cntM_app, h.cnt]
/-- A batch that was written is taken, or is one too many. -/
theorem submit_ok {p : PS} (h : WI p ms bn bj) (B : BatOf ms bn bj p.nodes T ns hs) (hn8 : p.nodes ≤ 8) :
    (24 < bj + cntM ns → subF p (batF ms bn bj p.nodes T).text = (p, (8, 0, 0, 0), [])) ∧
    (bj + cntM ns ≤ 24 → ∃ q, subF p (batF ms bn bj p.nodes T).text = (q, (0, 0, bj, cntM ns), []) ∧ WI q (ms ++ ns) (bn + 1) (bj + cntM ns) ∧ q.now = p.now ∧ q.nodes = p.nodes ∧ ∀ i, i < p.js.length → Wend (p.js.getD i pj0) (q.js.getD i pj0)) ∧
    (bj + cntM ns ≤ 24 → POK (takeF p (grpF hs p.js.length) hs)) := by
  have hl := h.len
  have hw := B.wide
  have hm := B.miss h.bk.bat
  have hr := B.ring h.bk.bat
  have ho := B.own
  have hcn : cntG (ns.map grpM) = cntM ns := cntG_map ns
  have hc24 : cntM ms ≤ 24 := by rw [h.bk.cnt, ← hl]; exact h.st.ok.n.ln
  have hsub : subF p (batF ms bn bj p.nodes T).text = if 24 < bj + cntM ns then (p, (8, 0, 0, 0), []) else (settleF (takeF p (ns.map grpM) hs), (0, 0, bj, cntM ns), []) := by
    unfold subF
    rw [B.rd]
    dsimp only
    rw [if_neg (by simp), hw]
    dsimp only
    rw [hl, ho, h.gs, hm]
    dsimp only
    rw [hr, if_neg (by simp), hcn]
  obtain ⟨L, t1, t2, t3⟩ := B.takes h.bk.good h.gs hc24 hn8 ns.length (Nat.le_refl _)
  rw [List.take_length] at t2
  have hLl : L.length = cntM ns := by
    have := congrArg List.length t2
    rw [List.length_map, jobsM_len] at this
    exact this
  have ht : takeF p (ns.map grpM) hs = { p with js := p.js ++ L, gs := p.gs ++ ns.map grpM } := by
    unfold takeF
    rw [B.hl, t1]
  refine ⟨fun q => by rw [hsub, if_pos q], fun q => ?_, fun q => ?_⟩
  · obtain ⟨a, b⟩ := take_pok h.st t3 (by omega) (G := p.gs ++ ns.map grpM)
    obtain ⟨c, d⟩ := settle_set (p := { p with js := p.js ++ L, gs := p.gs ++ ns.map grpM }) a b
    refine ⟨settleF (takeF p (ns.map grpM) hs), by rw [hsub, if_neg (by omega)], ?_, rfl, rfl, ?_⟩
    · rw [ht]
      refine ⟨c, B.bk h.bk, ?_, ?_⟩
      · show p.gs ++ ns.map grpM = _
        rw [h.gs, List.map_append]
      · have : (settleF { p with js := p.js ++ L, gs := p.gs ++ ns.map grpM }).js.map ntJ = (p.js ++ L).map ntJ := by
          refine List.ext_getElem (by simpa using d.1) ?_
          intro i i1 i2
          simp only [List.length_map] at i1 i2
          have := d.2 i i2
          rw [List.getElem_map, List.getElem_map]
          have e1 := getD_get i2
          have e2 := getD_get i1
          dsimp only at this
          rw [e1, e2] at this
          unfold ntJ
          rw [this.nd, this.tm]
        rw [this, List.map_append, h.jn, t2, jobsM_app]
    · intro i hi
      rw [ht]
      have := d.2 i (by dsimp only; simp; omega)
      dsimp only at this
      rwa [getD_app, if_pos hi] at this
  · rw [hl, ho, ht]
    exact (take_pok h.st t3 (by omega)).1
end Go.Proofs.YtanknpmojblmcaaGreatDoor

/-
  The book: its texts are such as the program takes.
-/
set_option linter.unusedSimpArgs false
set_option linter.unusedVariables false
namespace Go.Proofs.YtanknpmojblmcaaGreatDoor

/-- A step as the reader lays it. -/
def StO (L : List UInt8) (y : Stp) : Prop := 1 ≤ y.op ∧ y.op ≤ 6 ∧ y.num ≤ 99 ∧ y.pos ≤ L.length
def SoQ (L : List UInt8) (G : Nat × Bool → List Stp) : Prop := ∀ s : Nat × Bool, s.1 ≤ L.length → ∀ y ∈ G s, StO L y
theorem refQ_so {L : List UInt8} {op : Nat} {s : Nat × Bool} (h1 : 1 ≤ op) (h2 : op ≤ 6) (hs : s.1 ≤ L.length) : StO L (refQ L op s) := by
  unfold refQ
  split
  · exact ⟨h1, h2, numV_le L _, hs⟩
  · exact ⟨h1, h2, Nat.zero_le _, hs⟩
theorem leafQ_so (L : List UInt8) : SoQ L (leafQ L) := by
  intro s hs y hy
  unfold leafQ at hy
  split at hy
  · simp at hy; subst hy; exact ⟨by simp [stp], by simp [stp], by simp [stp], by simp [stp]⟩
  split at hy
  · simp at hy; subst hy; exact refQ_so (by omega) (by omega) (wd_goes L _ s hs).2
  split at hy
  · simp at hy; subst hy; exact refQ_so (by omega) (by omega) (wd_goes L _ s hs).2
  split at hy
  · simp at hy; subst hy; exact refQ_so (by omega) (by omega) (wd_goes L _ s hs).2
  · simp at hy
theorem stp_so {L : List UInt8} {op : Nat} (h1 : 1 ≤ op) (h2 : op ≤ 6) : StO L (stp op) := ⟨h1, h2, Nat.zero_le _, Nat.zero_le _⟩
theorem termLQ_so {L : List UInt8} {F : Nat × Bool → (List UInt8 × Nat) × (Nat × Bool)} {G : Nat × Bool → List Stp} (hF : GoodF L F) (hG : SoQ L G) : ∀ n s, s.1 ≤ L.length → ∀ y ∈ termLQ L F G n s, StO L y := by
  intro n
  induction n with
  | zero => intro s _ y hy; simp [termLQ] at hy
  | succ n ih =>
    intro s hs y hy
    unfold termLQ at hy
    split at hy
    · rename_i hk
      have g := sk_goes hk
      rcases List.mem_append.1 hy with h | h
      · exact hG _ g.2 y h
      · rcases List.mem_cons.1 h with h | h
        · subst h; exact stp_so (by omega) (by omega)
        · exact ih _ (hF _ g.2).1.2 y h
    · simp at hy
theorem termQ_so {L : List UInt8} {F : Nat × Bool → (List UInt8 × Nat) × (Nat × Bool)} {G : Nat × Bool → List Stp} (hF : GoodF L F) (hG : SoQ L G) : SoQ L (termQ L F G) := by
  intro s hs y hy
  unfold termQ at hy
  rcases List.mem_append.1 hy with h | h
  · exact hG s hs y h
  · exact termLQ_so hF hG _ _ (hF s hs).1.2 y h
theorem wantLQ_so {L : List UInt8} {F : Nat × Bool → (List UInt8 × Nat) × (Nat × Bool)} {G : Nat × Bool → List Stp} (hF : GoodF L F) (hG : SoQ L G) : ∀ n s, s.1 ≤ L.length → ∀ y ∈ wantLQ L F G n s, StO L y := by
  intro n
  induction n with
  | zero => intro s _ y hy; simp [wantLQ] at hy
  | succ n ih =>
    intro s hs y hy
    unfold wantLQ at hy
    split at hy
    · rename_i hk
      have g := sk_goes hk
      rcases List.mem_append.1 hy with h | h
      · exact termQ_so hF hG _ g.2 y h
      · rcases List.mem_cons.1 h with h | h
        · subst h; exact stp_so (by omega) (by omega)
        · exact ih _ (termF_good hF _ g.2).1.2 y h
    · simp at hy
theorem wantQ_so {L : List UInt8} {F : Nat × Bool → (List UInt8 × Nat) × (Nat × Bool)} {G : Nat × Bool → List Stp} (hF : GoodF L F) (hG : SoQ L G) : SoQ L (wantQ L F G) := by
  intro s hs y hy
  unfold wantQ at hy
  rcases List.mem_append.1 hy with h | h
  · exact termQ_so hF hG s hs y h
  · exact wantLQ_so hF hG _ _ (termF_good hF s hs).1.2 y h
theorem facQ_so (L : List UInt8) : ∀ n, SoQ L (facQ L n) := by
  intro n
  induction n with
  | zero =>
    intro s hs y hy
    unfold facQ at hy
    split at hy
    · simp at hy
    · exact leafQ_so L s hs y hy
  | succ n ih =>
    intro s hs y hy
    unfold facQ at hy
    split at hy
    · exact wantQ_so (fac_good L n) ih _ (wd_goes L _ s hs).2 y hy
    · exact leafQ_so L s hs y hy
def HvO (L : List UInt8) (h : HV) : Prop := (∀ y ∈ h.want, StO L y) ∧ h.want.length ≤ L.length
theorem aftH_so {L : List UInt8} {h : HV} {s : Nat × Bool} (hs : s.1 ≤ L.length) : HvO L (aftH L h s).1 := by
  have g := (wd_goes L [102, 116, 101, 114, 61] s hs).2
  have q := wantQ_good (fac_good L 4) (facQ_good L 4) _ g
  have q2 := (wantF_good (fac_good L 4) _ g).1.2
  refine ⟨wantQ_so (fac_good L 4) (facQ_so L 4) _ g, ?_⟩
  show (wantQ L (fac L 4) (facQ L 4) (wd L [102, 116, 101, 114, 61] s)).length ≤ L.length
  omega
theorem optH_so {L : List UInt8} {h : HV} {s : Nat × Bool} (hh : HvO L h) (hs : s.1 ≤ L.length) : HvO L (optH L h s).1 := by
  unfold optH
  split
  · rename_i h1
    have g1 := sk_goes h1
    have g2 := g1.trans (wd_goes L [97] _ g1.2)
    split
    · have g3 := g2.trans (wd_goes L [114, 114, 97, 121, 61] _ g2.2)
      have g4 := g3.trans (arrH_goes L h _ g3.2)
      split
      · rename_i h3
        have g5 := g4.trans (sk_goes h3)
        have g6 := g5.trans (wd_goes L [97] _ g5.2)
        exact aftH_so g6.2
      · exact hh
    · exact aftH_so g2.2
  · exact hh
theorem headH_so (L : List UInt8) (s : Nat × Bool) (hs : s.1 ≤ L.length) : HvO L (headH L s).1 := optH_so ⟨by intro y hy; simp [hedV] at hy, by simp [hedV]⟩ (hed4_goes L s hs).2
theorem hdsL_so (L : List UInt8) (n : Nat) : ∀ (s : Nat × Bool) (hs : List HV), s.1 ≤ L.length → (∀ x ∈ hs, HvO L x) → ∀ x ∈ (hdsL L n s hs).1, HvO L x := by
  have line : ∀ (s : Nat × Bool) (hs : List HV), s.1 ≤ L.length → (∀ x ∈ hs, HvO L x) → ∀ x ∈ (lineH L s hs).1, HvO L x := by
    intro s hs h1 h2 x hx
    unfold lineH at hx
    split at hx
    · rcases List.mem_append.1 hx with h | h
      · exact h2 x h
      · simp at h; subst h; exact headH_so L s h1
    · exact h2 x hx
  induction n with
  | zero => intro s hs _ h x hx; exact h x hx
  | succ n ih =>
    intro s hs h1 h2 x hx
    unfold hdsL at hx
    split at hx
    · rename_i hk
      exact ih _ _ (sk_goes hk).2 (line s hs h1 h2) x hx
    · exact line s hs h1 h2 x hx
theorem readH_so {L : List UInt8} {hs : List HV} (h : readH L = (hs, (0, 0))) : L.length ≤ 600 ∧ ∀ x ∈ hs, HvO L x := by
  unfold readH at h
  split at h
  · simp at h
  rename_i hl
  split at h
  · simp at h
  split at h
  · simp at h
  split at h
  · simp at h
  · simp at h
    refine ⟨by omega, ?_⟩
    rw [← h]
    exact hdsL_so L _ _ _ (by simp) (by simp)
variable {ms ns : List MB} {bn bj nodes : Nat} {T : List UInt8} {hs : List HV}
theorem BatOf.readOK (B : BatOf ms bn bj nodes T ns hs) : ReadOK (batF ms bn bj nodes T).text := by
  obtain ⟨hl, hso⟩ := readH_so B.rd
  have hln := B.hl
  have hn3 := B.n3
  refine ⟨by rw [B.rd]; show hs.length ≤ 100; omega, ?_, ?_⟩
  · rw [B.rd]
    intro x hx
    have hx : x ∈ hs := hx
    obtain ⟨k, hk, e, r, H⟩ := B.head hx
    obtain ⟨q1, q2, q3, q4, q5, q6, q7⟩ := hvX_job r
    have j := H.good.job
    have o := hso x hx
    refine ⟨by rw [q1]; have := j.nm6; omega, ?_, ?_, by rw [q2]; exact j.nodes.2, by rw [q3]; exact j.time.2, by have := o.2; omega, ?_⟩
    · intro ha
      rw [q4] at ha
      rw [q5, q6]
      have := j.arr ha
      omega
    · rw [q6]
      cases ha : (ns.getD k mb0).job.arr with
      | true => have := j.arr ha; omega
      | false => have := j.no ha; omega
    · intro y hy
      obtain ⟨a, b, c, d⟩ := o.1 y hy
      exact ⟨b, by omega, by omega⟩
  · rw [B.rd]
    intro x hx y hy
    exact ((hso x hx).1 y hy).1
theorem sum_take_le (ms : List MB) : ∀ k, k < ms.length → cntM (ms.take k) + (ms.getD k mb0).count ≤ cntM ms := by
  intro k hk
  have e : ms = ms.take k ++ ms.getD k mb0 :: ms.drop (k + 1) := by
    rw [show ms.getD k mb0 = ms[k] from by simp [hk], ← List.drop_eq_getElem_cons hk, List.take_append_drop]
  have : cntM ms = cntM (ms.take k) + cntM (ms.getD k mb0 :: ms.drop (k + 1)) := by rw [← cntM_app, ← e]
  rw [this]
  simp [cntM]
theorem WI.gok {p : PS} (h : WI p ms bn bj) : GsOK p := by
  have hl := h.len
  have hc : cntM ms = p.js.length := by rw [h.bk.cnt, hl]
  have h24 := h.st.ok.n.ln
  refine ⟨?_, by rw [h.gs, cntG_map, hc]⟩
  rw [h.gs]
  intro g hg
  obtain ⟨m, hm, rfl⟩ := List.mem_map.1 hg
  have gm := h.bk.good m hm
  obtain ⟨k, hk, rfl⟩ := List.getElem_of_mem hm
  have h1 := h.bk.fst k hk
  have h2 := sum_take_le ms k hk
  rw [show ms.getD k mb0 = ms[k] from by simp [hk]] at h1 h2
  refine ⟨⟨?_, ?_⟩, gm.c1⟩
  · show ms[k].first + ms[k].count ≤ 24; omega
  · show ms[k].job.lo ≤ 900
    cases ha : ms[k].job.arr with
    | true => have := gm.job.arr ha; omega
    | false => have := gm.job.no ha; omega
/-- The head of a job. -/
def jobB (ms : List MB) (id : Nat) : Nat → MB
  | 0 => mb0
  | n + 1 => if (ms.getD n mb0).first ≤ id then ms.getD n mb0 else jobB ms id n
end Go.Proofs.YtanknpmojblmcaaGreatDoor

/-
  pick, of any number.
-/
set_option linter.unusedSimpArgs false
set_option linter.unusedVariables false
namespace Go.Proofs.YtanknpmojblmcaaGreatDoor
open Go.RowKit

def pikD (c : Int) : Nat := (if c < 0 then -(c + 1) else c).toNat
theorem retI2 {a : Nat} {b : Int} (h : b = (a : Int)) : Ending.returned (.int .i64 b) = .returned (.int .i64 (a : Int)) := by rw [h]

set_option maxHeartbeats 1000000 in
theorem pkPick (c : Int) (n : Nat) (h1 : -9223372036854775808 ≤ c) (h2 : c ≤ 9223372036854775807) (hn : 0 < n) (hn2 : n ≤ 1000) (w : World) :
    Calls Tryz.prog 6 #[.int .i64 c, .int .i64 (n : Int)] w fun e w' => e = .returned (.int .i64 ((pikD c % n : Nat) : Int)) ∧ w' = w := by
  have hz : (n : Int) ≠ 0 := by omega
  by_cases hc : c < 0
  · obtain ⟨d, hd⟩ : ∃ d : Nat, c = -(d : Int) - 1 := ⟨(-(c + 1)).toNat, by omega⟩
    have HP : Hid (pikD c = d) := by show _ = _; unfold pikD; rw [if_pos hc, hd]; omega
    rw [HP.out]
    subst hd
    have hc' : decide (-(d : Int) - 1 < 0) = true := by simp; omega
    go_enter Tryz.func6, Tryz.ntmps6
    go_wp2_with fail
    go_ret
    exact ⟨retI2 (by first | omega | (rw [Int.natCast_emod]; done) | rfl | simp), rfl⟩
  · obtain ⟨d, hd⟩ : ∃ d : Nat, c = (d : Int) := ⟨c.toNat, by omega⟩
    have HP : Hid (pikD c = d) := by show _ = _; unfold pikD; rw [if_neg hc, hd]; simp
    rw [HP.out]
    subst hd
    have hc' : decide ((d : Int) < 0) = false := by simp
    go_enter Tryz.func6, Tryz.ntmps6
    go_wp2_with fail
    go_ret
    exact ⟨retI2 (by first | omega | (rw [Int.natCast_emod]; done) | rfl | simp), rfl⟩

end Go.Proofs.YtanknpmojblmcaaGreatDoor

/-
  A world and its moves on lists: what stands behind each.
-/
set_option linter.unusedSimpArgs false
set_option linter.unusedVariables false
namespace Go.Proofs.YtanknpmojblmcaaGreatDoor

/-- Which jobs may be chosen. -/
def amgB (held : Bool) (j : PJ) : Bool := decide (j.st = 2) || (held && decide (j.st < 3))
def amgC (held : Bool) (js : List PJ) : Nat → Nat
  | 0 => 0
  | n + 1 => amgC held js n + (if amgB held (js.getD n pj0) = true then 1 else 0)
/-- The place of the k-th of them. -/
def amgN (held : Bool) (js : List PJ) (k : Nat) : Nat → Option Nat
  | 0 => none
  | n + 1 => match amgN held js k n with
    | some i => some i
    | none => if amgB held (js.getD n pj0) = true ∧ amgC held js n = k then some n else none
theorem amgN_none {held : Bool} {js : List PJ} {k : Nat} : ∀ n, amgN held js k n = none → amgC held js n ≤ k := by
  intro n
  induction n with
  | zero => intro _; exact Nat.zero_le _
  | succ n ih =>
    intro h
    unfold amgN at h
    split at h
    · simp at h
    · rename_i hn
      have := ih hn
      split at h
      · simp at h
      · rename_i hc
        unfold amgC
        split
        · rename_i hb
          have : amgC held js n ≠ k := fun e => hc ⟨hb, e⟩
          omega
        · omega
theorem amgN_some {held : Bool} {js : List PJ} {k i : Nat} : ∀ n, amgN held js k n = some i → i < n ∧ amgB held (js.getD i pj0) = true ∧ amgC held js i = k := by
  intro n
  induction n with
  | zero => intro h; simp [amgN] at h
  | succ n ih =>
    intro h
    unfold amgN at h
    split at h
    · rename_i j hj
      have e := Option.some.inj h
      subst e
      obtain ⟨a, b⟩ := ih hj
      exact ⟨by omega, b⟩
    · split at h
      · rename_i hc
        have e := Option.some.inj h
        subst e
        exact ⟨by omega, hc⟩
      · simp at h
def amgF (held : Bool) (js : List PJ) (a : Int) : Option Nat := if amgC held js js.length = 0 then none else amgN held js (pikD a % amgC held js js.length) js.length

/-- A move. -/
structure Mv where
  kind : Int
  a : Int
  b : Int
  s : ByteArray
structure WS where
  p : PS
  ms : List MB
  bn : Nat
def stepW (x : WS) (m : Mv) : WS :=
  if m.kind = 1 then
    if 24 < (batF x.ms x.bn x.p.js.length x.p.nodes m.s.data.toList).jobs then x else ⟨(subF x.p (batF x.ms x.bn x.p.js.length x.p.nodes m.s.data.toList).text).1, (batF x.ms x.bn x.p.js.length x.p.nodes m.s.data.toList).ms, x.bn + 1⟩
  else if m.kind = 4 then
    if 3000 < x.p.now + ((1 + pikD m.a % 9 : Nat) : Int) then x else ⟨tickN x.p (1 + pikD m.a % 9), x.ms, x.bn⟩
  else if m.kind = 2 then
    match amgF false x.p.js m.a with
    | none => x
    | some id => ⟨(finishF x.p (id : Int) (decide (pikD m.b % 2 = 1))).1, x.ms, x.bn⟩
  else if m.kind = 3 then
    match amgF true x.p.js m.a with
    | none => x
    | some id => ⟨(cancelF x.p (id : Int)).1, x.ms, x.bn⟩
  else x

/-- A world that is as it should be. -/
structure WOK (x : WS) : Prop where
  wi : WI x.p x.ms x.bn x.p.js.length
  n1 : 1 ≤ x.p.nodes
  n8 : x.p.nodes ≤ 8
  hi : x.p.now ≤ 3000
  bn : x.bn ≤ x.ms.length
/-- What kept asks of a job. -/
structure KeptJ (now : Int) (j k : PJ) : Prop where
  e : 3 ≤ j.st → k.st = j.st ∧ k.sa = j.sa ∧ k.en = j.en
  r : j.st = 2 → k.sa = j.sa ∧ 2 ≤ k.st ∧ k.st ≤ 5
  q : j.st = 1 → (k.st = 5 ∧ k.sa = -1) ∨ (1 ≤ k.st ∧ k.st ≤ 4 ∧ 0 ≤ k.sa ∧ k.sa ≤ j.sa ∧ (k.st = 1 → now < j.sa))
theorem kept_wend {now : Int} {j k : PJ} (h : Wend j k) (hl : k.st = 1 → now < k.sa) : KeptJ now j k := by
  refine ⟨h.e, ?_, ?_⟩
  · intro q; have := h.r q; omega
  · intro q
    obtain ⟨a, b, c⟩ := h.q q
    right
    refine ⟨by omega, by omega, a, b, ?_⟩
    intro e
    have := hl e
    omega
theorem wend_nt {a b : List PJ} (hl : b.length = a.length) (h : ∀ i, i < a.length → (b.getD i pj0).nd = (a.getD i pj0).nd ∧ (b.getD i pj0).tm = (a.getD i pj0).tm) : b.map ntJ = a.map ntJ := by
  refine List.ext_getElem (by simpa using hl) ?_
  intro i i1 i2
  simp only [List.length_map] at i1 i2
  have := h i i2
  rw [getD_get i1, getD_get i2] at this
  rw [List.getElem_map, List.getElem_map]
  unfold ntJ
  rw [this.1, this.2]
theorem WI.next {p q : PS} {ms : List MB} {bn bj : Nat} (h : WI p ms bn bj) (hs : Stl q) (hg : q.gs = p.gs) (hl : q.js.length = p.js.length) (hn : ∀ i, i < p.js.length → (q.js.getD i pj0).nd = (p.js.getD i pj0).nd ∧ (q.js.getD i pj0).tm = (p.js.getD i pj0).tm) : WI q ms bn bj :=
  ⟨hs, h.bk, by rw [hg, h.gs], by rw [wend_nt hl hn, h.jn]⟩
/-- What a move does. -/
theorem step_ok {x : WS} (h : WOK x) (m : Mv) : WOK (stepW x m) ∧ (stepW x m).p.nodes = x.p.nodes ∧ x.p.js.length ≤ (stepW x m).p.js.length ∧ ∀ i, i < x.p.js.length → KeptJ (stepW x m).p.now (x.p.js.getD i pj0) ((stepW x m).p.js.getD i pj0) := by
  have same : WOK x ∧ x.p.nodes = x.p.nodes ∧ x.p.js.length ≤ x.p.js.length ∧ ∀ i, i < x.p.js.length → KeptJ x.p.now (x.p.js.getD i pj0) (x.p.js.getD i pj0) :=
    ⟨h, rfl, Nat.le_refl _, fun i hi => kept_wend (h.wi.st.f.refl.2 i hi) (fun q => h.wi.st.l i hi q)⟩
  unfold stepW
  split
  · obtain ⟨ns, hs, B⟩ := batF_ok (bn := x.bn) (bj := x.p.js.length) (T := m.s.data.toList) h.wi.bk.good h.n1 h.n8
    obtain ⟨s1, s2, _⟩ := submit_ok h.wi B h.n8
    rw [B.jb]
    split
    · exact same
    · rename_i hc
      obtain ⟨q, e1, e2, e3, e4, e5⟩ := s2 (by omega)
      rw [e1, B.mm]
      have hl := e2.len
      dsimp only
      refine ⟨⟨by dsimp only; rw [hl]; exact e2, by dsimp only; rw [e4]; exact h.n1, by dsimp only; rw [e4]; exact h.n8, by dsimp only; rw [e3]; exact h.hi, ?_⟩, e4, by omega, ?_⟩
      · dsimp only
        have := h.bn
        have := B.n1
        simp; omega
      · intro i hi
        exact kept_wend (e5 i hi) (fun q2 => e2.st.l i (by omega) q2)
  split
  · split
    · exact same
    · rename_i hc
      have hn := h.wi.st.f.n0
      obtain ⟨a, b, c, d, e⟩ := tick_set h.wi.st (1 + pikD m.a % 9) (by omega)
      refine ⟨⟨?_, by dsimp only; rw [d]; exact h.n1, by dsimp only; rw [d]; exact h.n8, by dsimp only; rw [c]; omega, h.bn⟩, d, by dsimp only; rw [b.1]; exact Nat.le_refl _, ?_⟩
      · dsimp only
        rw [b.1]
        exact h.wi.next a e b.1 (fun i hi => ⟨(b.2 i hi).nd, (b.2 i hi).tm⟩)
      · intro i hi
        exact kept_wend (b.2 i hi) (fun q2 => a.l i (by rw [b.1]; exact hi) q2)
  split
  · cases hA : amgF false x.p.js m.a with
    | none => exact same
    | some id =>
      unfold amgF at hA
      split at hA
      · simp at hA
      obtain ⟨a1, a2, a3⟩ := amgN_some _ hA
      have hst : (x.p.js.getD id pj0).st = 2 := by unfold amgB at a2; simpa using a2
      obtain ⟨q, f1, f2, f3, f4, f5, f6, f7, f8, f9, f10, f11, f12, f13⟩ := finish_set h.wi.st (decide (pikD m.b % 2 = 1)) a1 hst
      dsimp only
      rw [f1]
      dsimp only
      refine ⟨⟨?_, by dsimp only; rw [f4]; exact h.n1, by dsimp only; rw [f4]; exact h.n8, by dsimp only; rw [f3]; exact h.hi, h.bn⟩, f4, by rw [f6]; exact Nat.le_refl _, ?_⟩
      · dsimp only
        rw [f6]
        refine h.wi.next f2 f5 f6 ?_
        intro i hi
        by_cases e : i = id
        · subst e; exact ⟨f10, f11⟩
        · exact ⟨(f13 i hi e).nd, (f13 i hi e).tm⟩
      · intro i hi
        by_cases e : i = id
        · subst e
          refine ⟨fun q => by omega, fun _ => ⟨f9, ?_⟩, fun q => by omega⟩
          rw [f7]
          split <;> omega
        · exact kept_wend (f13 i hi e) (fun q2 => f2.l i (by rw [f6]; exact hi) q2)
  split
  · cases hA : amgF true x.p.js m.a with
    | none => exact same
    | some id =>
      unfold amgF at hA
      split at hA
      · simp at hA
      obtain ⟨a1, a2, a3⟩ := amgN_some _ hA
      have hst : (x.p.js.getD id pj0).st ≤ 2 := by unfold amgB at a2; simp at a2; simp; omega
      obtain ⟨q, f1, f2, f3, f4, f5, f6, f7, f8, f9, f10, f11, f12, f13⟩ := cancel_set h.wi.st a1 hst
      dsimp only
      rw [f1]
      dsimp only
      refine ⟨⟨?_, by dsimp only; rw [f4]; exact h.n1, by dsimp only; rw [f4]; exact h.n8, by dsimp only; rw [f3]; exact h.hi, h.bn⟩, f4, by rw [f6]; exact Nat.le_refl _, ?_⟩
      · dsimp only
        rw [f6]
        refine h.wi.next f2 f5 f6 ?_
        intro i hi
        by_cases e : i = id
        · subst e; exact ⟨f10, f11⟩
        · exact ⟨(f13 i hi e).nd, (f13 i hi e).tm⟩
      · intro i hi
        by_cases e : i = id
        · subst e
          refine ⟨fun q => by omega, fun q => ⟨?_, by omega, by omega⟩, fun q => Or.inl ⟨f7, ?_⟩⟩
          · rw [f9, if_neg (by omega)]
          · rw [f9, if_pos q]
        · exact kept_wend (f13 i hi e) (fun q2 => f2.l i (by rw [f6]; exact hi) q2)
  · exact same
/-- The running jobs' nodes. -/
def runN (js : List PJ) : Nat → Nat
  | 0 => 0
  | n + 1 => runN js n + (if (js.getD n pj0).st = 2 then (js.getD n pj0).nd else 0)
theorem run_le {p : PS} (h : Stl p) : runN p.js p.js.length ≤ p.nodes := by
  have hc := h.f.c p.now (Int.le_refl _)
  have : ∀ n, n ≤ p.js.length → runN p.js n ≤ ((p.js.take n).map (wnA p.now)).sum := by
    intro n
    induction n with
    | zero => intro _; exact Nat.zero_le _
    | succ n ih =>
      intro hn
      have := ih (by omega)
      rw [sum_take _ _ _ (by omega)]
      unfold runN
      split
      · rename_i hs
        have ht := (h.f.t n (by omega)).s2 hs
        rw [wnA_of (by unfold hasS; rw [hs]; rfl) ht.2.1 ht.2.2.1]
        omega
      · omega
  have h2 := this p.js.length (Nat.le_refl _)
  rw [List.take_length] at h2
  unfold totL at hc
  omega
end Go.Proofs.YtanknpmojblmcaaGreatDoor

/-
  A world: the head of a job; a new world; behind some moves.
-/
set_option linter.unusedSimpArgs false
set_option linter.unusedVariables false
namespace Go.Proofs.YtanknpmojblmcaaGreatDoor

theorem jobB_nt {ms : List MB} {bn bj id : Nat} (h : BkOK ms bn bj) : ∀ n, n ≤ ms.length → id < cntM (ms.take n) → (jobsM (ms.take n)).getD id (0, 0) = ((jobB ms id n).job.nodes, (jobB ms id n).job.time) := by
  intro n
  induction n with
  | zero => intro _ hi; simp [cntM] at hi
  | succ n ih =>
    intro hn hi
    have hf := h.fst n (by omega)
    rw [take_snoc ms (by omega), jobsM_app]
    rw [take_snoc ms (by omega), cntM_app] at hi
    have hl := jobsM_len (ms.take n)
    have e : jobsM [ms.getD n mb0] = List.replicate (ms.getD n mb0).count ((ms.getD n mb0).job.nodes, (ms.getD n mb0).job.time) := by unfold jobsM; rw [List.flatMap_cons]; simp
    have e2 : cntM [ms.getD n mb0] = (ms.getD n mb0).count := by simp [cntM]
    unfold jobB
    rw [hf]
    split
    · rename_i hc
      rw [e, List.getD_eq_getElem?_getD, List.getElem?_append_right (by omega), hl, List.getElem?_replicate, if_pos (by omega)]
      rfl
    · rename_i hc
      rw [List.getD_eq_getElem?_getD, List.getElem?_append_left (by omega), ← List.getD_eq_getElem?_getD]
      exact ih (by omega) (by omega)
theorem WI.job {p : PS} {ms : List MB} {bn bj id : Nat} (h : WI p ms bn bj) (hid : id < p.js.length) : (p.js.getD id pj0).nd = (jobB ms id ms.length).job.nodes ∧ (p.js.getD id pj0).tm = (jobB ms id ms.length).job.time := by
  have hl := h.len
  have e := jobB_nt (id := id) h.bk ms.length (Nat.le_refl _) (by rw [List.take_length, h.bk.cnt]; omega)
  rw [List.take_length, ← h.jn] at e
  have e2 : (p.js.map ntJ).getD id (0, 0) = ntJ (p.js.getD id pj0) := by
    simp [List.getD_eq_getElem?_getD, hid]
  rw [e2] at e
  unfold ntJ at e
  exact ⟨congrArg Prod.fst e, congrArg Prod.snd e⟩
theorem new_wok (n : Nat) (h1 : 1 ≤ n) (h8 : n ≤ 8) : WOK ⟨newP n, [], 0⟩ := by
  refine ⟨⟨⟨⟨⟨by intro j hj; simp [newP] at hj, by simp [newP], h8, by simp [newP], by simp [newP], by intro j hj; simp [newP] at hj, by intro j hj; simp [newP] at hj⟩, ⟨by intro i hi; simp [newP] at hi, by intro i hi; simp [newP] at hi, by simp [newP], by intro i hi; simp [newP] at hi, by simp [newP]⟩⟩, ⟨by simp [newP], by intro i hi; simp [newP] at hi, by intro m _; simp [newP, totL]⟩, by intro i hi; simp [newP] at hi, by intro i hi; simp [newP] at hi⟩, ⟨by simp, by simp, by simp [newP, cntM], by intro k hk; simp at hk⟩, by simp [newP], by simp [newP, jobsM]⟩, h1, h8, by simp [newP], by simp⟩
/-- Behind some moves. -/
def walkW (x : WS) : List Mv → WS
  | [] => x
  | m :: r => walkW (stepW x m) r
end Go.Proofs.YtanknpmojblmcaaGreatDoor
