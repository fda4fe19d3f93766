/-
  How the heads of a ring are read.
-/
import Derived.Test.YtanknpmojblmcabMathR
import Derived.Test.YtanknpmojblmcabNum
import Derived.Test.YtanknpmojblmcabWant
set_option linter.unusedSimpArgs false
set_option linter.unusedVariables false
namespace Go.Proofs.Ytanknpmojblmcab

def hd1 (R : List UInt8) : Nat := (R.head?.map UInt8.toNat).getD 0
def EndR (R : List UInt8) : Prop := R.head? = none ∨ R.head? = some 10
theorem EndR.b {R : List UInt8} (h : EndR R) : hd1 R = 0 ∨ hd1 R = 10 := by
  rcases h with h | h <;> simp [hd1, h]
theorem byt_hd1 {L R : List UInt8} {i : Nat} (h : L.drop i = R) : byt L i = hd1 R := byt_head h
theorem rgLets {L R : List UInt8} (hR : letB (hd1 R) = false) : ∀ (nm : List UInt8) (n i : Nat), (∀ c ∈ nm, letB c.toNat = true) → nm.length ≤ n → L.drop i = nm ++ R → lets L n i = nm.length
  | [], n, i, _, _, hd => by
    have hb := byt_hd1 hd
    cases n with
    | zero => rfl
    | succ n => simp [lets, hb]; simpa using hR
  | c :: nm, n, i, hc, hn, hd => by
    obtain ⟨m, rfl⟩ : ∃ m, n = m + 1 := ⟨n - 1, by simp at hn; omega⟩
    have hb := (byt_drop hd).2.1
    have hl : letB (byt L i) = true := by rw [hb]; exact hc c (by simp)
    have ih := rgLets hR nm m (i + 1) (fun d hd => hc d (by simp [hd])) (by simp at hn; omega) (byt_drop hd).2.2
    simp [lets, hl, ih]
theorem rgNm {L R nm : List UInt8} {i : Nat} (hR : letB (hd1 R) = false) (hc : ∀ c ∈ nm, letB c.toNat = true) (h1 : 1 ≤ nm.length) (h6 : nm.length ≤ 6) (hd : L.drop i = nm ++ R) : nmS L (i, false) = (i + nm.length, false) := by
  have e := rgLets hR nm 6 i hc h6 hd
  simp [nmS, e]
  intro q; rw [q] at h1; simp at h1
theorem rgOne {L R : List UInt8} {i : Nat} (hd : L.drop i = 49 :: R) (hR : digB (hd1 R) = false) : numV L (i, false) = 1 ∧ numS L (i, false) = (i + 1, false) := by
  obtain ⟨_, b, d⟩ := byt_drop hd
  have p1 : pk L (i, false) = 49 := b
  have p2 : pk L (i + 1, false) = hd1 R := byt_hd1 d
  have q := num_one (L := L) (s := (i, false)) (by rw [p1]; decide) (Or.inr (by rw [p2]; exact hR))
  rw [p1] at q
  exact q

def nmR (i : Nat) : List UInt8 := [UInt8.ofNat (97 + i), 120]
theorem nmR_let {i : Nat} (h : i < 12) : ∀ c ∈ nmR i, letB c.toNat = true := by
  intro c hc
  simp [nmR] at hc
  rcases hc with rfl | rfl
  · simp [letB]; omega
  · decide
theorem nmR_inj {i k : Nat} (hi : i < 12) (hk : k < 12) (h : nmR i = nmR k) : i = k := by
  simp [nmR] at h
  have := congrArg UInt8.toNat h
  simp at this
  omega
def midR : List UInt8 := [32, 110, 111, 100, 101, 115, 61] ++ ([49] ++ ([32, 116, 105, 109, 101, 61] ++ [49]))
def opR (op : Nat) : List UInt8 := if op = 1 then [111, 107, 58] else if op = 2 then [97, 110, 121, 58] else [110, 111, 116, 58]
def aftR (o : Option (Nat × Nat)) : List UInt8 := match o with
  | none => []
  | some x => [32, 97, 102, 116, 101, 114, 61] ++ (opR x.1 ++ nmR x.2)
def linR (i : Nat) (o : Option (Nat × Nat)) : List UInt8 := [35, 74, 32] ++ (nmR i ++ (midR ++ aftR o))
def wntR (o : Option (Nat × Nat)) (pos : Nat) : List Stp := match o with
  | none => []
  | some x => [⟨x.1, pos, nmR x.2, false, 0⟩]
structure LinQ (i : Nat) (o : Option (Nat × Nat)) (n : Nat) (h : HV) : Prop where
  name : h.name = nmR i
  nodes : h.nodes = 1
  time : h.time = 1
  arr : h.arr = false
  hi : h.hi = 0
  want : ∃ pos, pos ≤ n ∧ h.want = wntR o pos

/-- A want of one reference. -/
theorem rg_want {L R : List UInt8} {q op k : Nat} (h1 : 1 ≤ op) (h3 : op ≤ 3) (hk : k < 12) (hd : L.drop q = (opR op ++ nmR k) ++ R) (hR : EndR R) :
    wantQ L (fac L 4) (facQ L 4) (q, false) = [⟨op, q + (opR op).length, nmR k, false, 0⟩] ∧ (wantF L (fac L 4) (q, false)).2 = (q + (opR op ++ nmR k).length, false) := by
  have hRl : letB (hd1 R) = false := by rcases hR.b with e | e <;> rw [e] <;> decide
  have hd' : L.drop q = opR op ++ (nmR k ++ R) := by rw [hd, List.append_assoc]
  have dn := drop_more hd'
  have hnm : nmS L (q + (opR op).length, false) = (q + (opR op).length + 2, false) := rgNm hRl (nmR_let hk) (by simp [nmR]) (by simp [nmR]) dn
  have de := drop_more dn
  have hend : L.drop (q + (opR op).length + 2) = R := de
  have s91 : sk L 91 (q + (opR op).length + 2, false) = false := by
    have e := sk_head (c := 91) hend (by decide)
    rw [show ((91 : UInt8).toNat) = 91 from rfl] at e
    rw [e]
    rcases hR with e | e <;> rw [e] <;> decide
  have s38 : sk L 38 (q + (opR op).length + 2, false) = false := by
    have e := sk_head (c := 38) hend (by decide)
    rw [show ((38 : UInt8).toNat) = 38 from rfl] at e
    rw [e]
    rcases hR with e | e <;> rw [e] <;> decide
  have s124 : sk L 124 (q + (opR op).length + 2, false) = false := by
    have e := sk_head (c := 124) hend (by decide)
    rw [show ((124 : UInt8).toNat) = 124 from rfl] at e
    rw [e]
    rcases hR with e | e <;> rw [e] <;> decide
  have hcut : cut L (q + (opR op).length) (q + (opR op).length + 2) = nmR k := cut_of_drop dn
  have hw : wd L (opR op) (q, false) = (q + (opR op).length, false) := wd_of (opR op) _ q (by
    have : op = 1 ∨ op = 2 ∨ op = 3 := by omega
    rcases this with rfl | rfl | rfl <;> decide) hd'
  have hleaf : leafS L (q, false) = (q + (opR op).length + 2, false) ∧ leafQ L (q, false) = [⟨op, q + (opR op).length, nmR k, false, 0⟩] ∧ pk L (q, false) ≠ 40 := by
    have : op = 1 ∨ op = 2 ∨ op = 3 := by omega
    rcases this with rfl | rfl | rfl
    · have hp : pk L (q, false) = 111 := byt_hd1 hd'
      have hw' : wd L [111, 107, 58] (q, false) = (q + (opR 1).length, false) := hw
      refine ⟨?_, ?_, by rw [hp]; decide⟩
      · unfold leafS refS
        rw [hp, hw', hnm]
        simp [s91]
      · unfold leafQ refQ
        rw [hp, hw', hnm]
        simp [s91, hcut]
    · have hp : pk L (q, false) = 97 := byt_hd1 hd'
      have hw' : wd L [97, 110, 121, 58] (q, false) = (q + (opR 2).length, false) := hw
      refine ⟨?_, ?_, by rw [hp]; decide⟩
      · unfold leafS refS
        rw [hp, hw', hnm]
        simp [s91]
      · unfold leafQ refQ
        rw [hp, hw', hnm]
        simp [s91, hcut]
    · have hp : pk L (q, false) = 110 := byt_hd1 hd'
      have hw' : wd L [110, 111, 116, 58] (q, false) = (q + (opR 3).length, false) := hw
      refine ⟨?_, ?_, by rw [hp]; decide⟩
      · unfold leafS refS
        rw [hp, hw', hnm]
        simp [s91]
      · unfold leafQ refQ
        rw [hp, hw', hnm]
        simp [s91, hcut]
  obtain ⟨hl1, hl2, hl3⟩ := hleaf
  have hf : (fac L 4 (q, false)).2 = (q + (opR op).length + 2, false) := by
    show (fac L (3 + 1) (q, false)).2 = _
    unfold fac
    rw [if_neg hl3]
    exact hl1
  have hfq : facQ L 4 (q, false) = [⟨op, q + (opR op).length, nmR k, false, 0⟩] := by
    show facQ L (3 + 1) (q, false) = _
    unfold facQ
    rw [if_neg hl3]
    exact hl2
  have ht : (termF L (fac L 4) (q, false)).2 = (q + (opR op).length + 2, false) := by
    unfold termF
    rw [if_neg (by
      rw [hf]
      have e : pk L (q + (opR op).length + 2, false) = hd1 R := byt_hd1 hend
      rw [e]
      rcases hR.b with e | e <;> rw [e] <;> decide), hf]
  constructor
  · unfold wantQ termQ
    rw [hfq, hf, termLQ_no s38, ht, wantLQ_no s124]
    rfl
  · unfold wantF
    rw [ht, wantL_no s124]
    simp [nmR]
    omega

theorem lin_reads {i : Nat} (hi : i < 12) {o : Option (Nat × Nat)} (ho : ∀ x, o = some x → 1 ≤ x.1 ∧ x.1 ≤ 3 ∧ x.2 < 12) : ∀ L p R, L.drop p = linR i o ++ R → EndR R → p ≤ L.length → seesB L p = true ∧ ∃ hv, headH L (p, false) = (hv, (p + (linR i o).length, false)) ∧ LinQ i o L.length hv := by
  intro L p R hd hR hpl
  have d0 : L.drop p = [35, 74, 32] ++ (nmR i ++ ([32, 110, 111, 100, 101, 115, 61] ++ ([49] ++ ([32, 116, 105, 109, 101, 61] ++ ([49] ++ (aftR o ++ R)))))) := by rw [hd]; simp [linR, midR]
  have d1 := drop_more d0
  have d2 := drop_more d1
  have d3 := drop_more d2
  have d4 := drop_more d3
  have d5 := drop_more d4
  have d6 := drop_more d5
  simp only [List.length_cons, List.length_nil] at d1 d3 d4 d5 d6
  have hn2 : (nmR i).length = 2 := rfl
  rw [hn2] at d2 d3 d4 d5 d6
  have hsee : seesB L p = true := by
    have a := byt_drop (c := 35) (r := 74 :: (32 :: (nmR i ++ ([32, 110, 111, 100, 101, 115, 61] ++ ([49] ++ ([32, 116, 105, 109, 101, 61] ++ ([49] ++ (aftR o ++ R)))))))) d0
    have b := byt_drop a.2.2
    unfold seesB
    rw [a.2.1, b.2.1]
    rfl
  have e1 : hed1 L (p, false) = (p + 3, false) := wd_of [35, 74, 32] _ p (by decide) d0
  have e2 : nmS L (p + 3, false) = (p + 3 + 2, false) := rgNm rfl (nmR_let hi) (by simp [nmR]) (by simp [nmR]) d1
  have c1 : cut L (p + 3) (p + 3 + 2) = nmR i := cut_of_drop d1
  have e3 : hed2 L (p, false) = (p + 3 + 2 + 7, false) := by
    unfold hed2
    rw [e1, e2]
    exact wd_of [32, 110, 111, 100, 101, 115, 61] _ _ (by decide) d2
  have n1 := rgOne (R := [32, 116, 105, 109, 101, 61] ++ ([49] ++ (aftR o ++ R))) d3 rfl
  have e4 : hed3 L (p, false) = (p + 3 + 2 + 7 + 1 + 6, false) := by
    unfold hed3
    rw [e3, n1.2]
    exact wd_of [32, 116, 105, 109, 101, 61] _ _ (by decide) d4
  have hdig : digB (hd1 (aftR o ++ R)) = false := by
    cases o with
    | none =>
      show digB (hd1 R) = false
      rcases hR.b with e | e <;> rw [e] <;> decide
    | some x => rfl
  have n2 := rgOne (R := aftR o ++ R) d5 hdig
  have e5 : hed4 L (p, false) = (p + 3 + 2 + 7 + 1 + 6 + 1, false) := by
    unfold hed4
    rw [e4, n2.2]
  refine ⟨hsee, ?_⟩
  have v1 : (hedV L (p, false)).name = nmR i := by show cut L (hed1 L (p, false)).1 (nmS L (hed1 L (p, false))).1 = _; rw [e1, e2]; exact c1
  have v2 : (hedV L (p, false)).nodes = 1 := by show numV L (hed2 L (p, false)) = 1; rw [e3]; exact n1.1
  have v3 : (hedV L (p, false)).time = 1 := by show numV L (hed3 L (p, false)) = 1; rw [e4]; exact n2.1
  unfold headH
  rw [e5]
  cases o with
  | none =>
    have hs : sk L 32 (p + 3 + 2 + 7 + 1 + 6 + 1, false) = false := by
      have e := sk_head (c := 32) d6 (by decide)
      rw [show ((32 : UInt8).toNat) = 32 from rfl] at e
      rw [e]
      show decide (R.head? = some 32) = false
      rcases hR with e | e <;> rw [e] <;> decide
    refine ⟨hedV L (p, false), ?_, ⟨v1, v2, v3, rfl, rfl, ⟨0, Nat.zero_le _, rfl⟩⟩⟩
    unfold optH
    rw [hs]
    simp [linR, nmR, midR, aftR]
  | some x =>
    obtain ⟨o1, o2, o3⟩ := ho x rfl
    have d7 : L.drop (p + 3 + 2 + 7 + 1 + 6 + 1) = [32] ++ ([97] ++ ([102, 116, 101, 114, 61] ++ ((opR x.1 ++ nmR x.2) ++ R))) := by rw [d6]; simp [aftR]
    have d8 := drop_more d7
    have d9 := drop_more d8
    have d10 := drop_more d9
    simp only [List.length_cons, List.length_nil] at d8 d9 d10
    have hs : sk L 32 (p + 3 + 2 + 7 + 1 + 6 + 1, false) = true := by
      have e := sk_head (c := 32) d7 (by decide)
      rw [show ((32 : UInt8).toNat) = 32 from rfl] at e
      rw [e]; rfl
    have w1 : wd L [97] (p + 3 + 2 + 7 + 1 + 6 + 1 + 1, false) = (p + 3 + 2 + 7 + 1 + 6 + 1 + 1 + 1, false) := wd_of [97] _ _ (by decide) d8
    have p1 : pk L (p + 3 + 2 + 7 + 1 + 6 + 1 + 1 + 1, false) = 102 := byt_hd1 d9
    have w2 : wd L [102, 116, 101, 114, 61] (p + 3 + 2 + 7 + 1 + 6 + 1 + 1 + 1, false) = (p + 3 + 2 + 7 + 1 + 6 + 1 + 1 + 1 + 5, false) := wd_of [102, 116, 101, 114, 61] _ _ (by decide) d9
    obtain ⟨q1, q2⟩ := rg_want o1 o2 o3 d10 hR
    refine ⟨(aftH L (hedV L (p, false)) (p + 3 + 2 + 7 + 1 + 6 + 1 + 1 + 1, false)).1, ?_, ⟨v1, v2, v3, rfl, rfl, ⟨p + 3 + 2 + 7 + 1 + 6 + 1 + 1 + 1 + 5 + (opR x.1).length, ?_, ?_⟩⟩⟩
    · unfold optH
      rw [if_pos hs]
      simp only
      rw [w1, if_neg (by rw [p1]; decide)]
      unfold aftH
      rw [w2, q2]
      simp [linR, nmR, midR, aftR]
      omega
    · have := congrArg List.length d10
      simp [nmR] at this
      omega
    · show wantQ L (fac L 4) (facQ L 4) (wd L [102, 116, 101, 114, 61] (p + 3 + 2 + 7 + 1 + 6 + 1 + 1 + 1, false)) = _
      rw [w2, q1]
      rfl

/-- The lines of a ring. -/
theorem rg_lines {L : List UInt8} : ∀ (l : List (Nat × Option (Nat × Nat))) (p n : Nat) (hs : List HV), l ≠ [] → (∀ x ∈ l, x.1 < 12 ∧ ∀ y, x.2 = some y → 1 ≤ y.1 ∧ y.1 ≤ 3 ∧ y.2 < 12) → L.drop p = jnl 10 (l.map fun x => linR x.1 x.2) → p ≤ L.length → l.length ≤ n →
    ∃ hs', hdsL L n (p, false) hs = (hs ++ hs', (L.length, false)) ∧ hs'.length = l.length ∧ ∀ k (hk : k < l.length) (hk' : k < hs'.length), LinQ l[k].1 l[k].2 L.length hs'[k]
  | [], p, n, hs, hne, _, _, _, _ => absurd rfl hne
  | x :: r, p, n, hs, hne, hok, hd, hp, hn => by
    obtain ⟨m, rfl⟩ : ∃ m, n = m + 1 := ⟨n - 1, by simp at hn; omega⟩
    have hd0 : L.drop p = linR x.1 x.2 ++ ptl 10 (r.map fun x => linR x.1 x.2) := hd
    have hE : EndR (ptl 10 (r.map fun x => linR x.1 x.2)) := by
      cases r with
      | nil => exact Or.inl rfl
      | cons y z => exact Or.inr rfl
    obtain ⟨q1, hv, q2, q3⟩ := lin_reads (hok x (by simp)).1 (hok x (by simp)).2 L p _ hd0 hE hp
    have e1 : lineH L (p, false) hs = (hs ++ [hv], (p + (linR x.1 x.2).length, false)) := by
      unfold lineH
      rw [if_pos q1, q2]
    have hd1 := drop_more hd0
    have hpos : 0 < (linR x.1 x.2).length := by simp [linR]
    have hle : p + (linR x.1 x.2).length ≤ L.length := by
      have := congrArg List.length hd0
      simp at this
      omega
    cases r with
    | nil =>
      have hL : p + (linR x.1 x.2).length = L.length := by
        have := congrArg List.length hd0
        simp [ptl] at this
        omega
      have hs2 : sk L 10 (p + (linR x.1 x.2).length, false) = false := by
        have e := sk_head (c := 10) hd1 (by decide)
        simpa [ptl] using e
      refine ⟨[hv], ?_, rfl, ?_⟩
      · unfold hdsL
        rw [e1]
        simp only
        rw [hs2]
        simp [hL]
      · intro k hk hk'
        obtain rfl : k = 0 := by simp at hk; omega
        exact q3
    | cons y z =>
      have hs2 : sk L 10 (p + (linR x.1 x.2).length, false) = true := by
        have e := sk_head (c := 10) hd1 (by decide)
        simpa [ptl] using e
      have hd2 : L.drop (p + (linR x.1 x.2).length + 1) = jnl 10 ((y :: z).map fun x => linR x.1 x.2) := (byt_drop (c := 10) hd1).2.2
      have hlt : p + (linR x.1 x.2).length < L.length := (byt_drop (c := 10) hd1).1
      obtain ⟨hs', i1, i2, i3⟩ := rg_lines (y :: z) (p + (linR x.1 x.2).length + 1) m (hs ++ [hv]) (by simp) (fun w hw => hok w (by simp at hw ⊢; exact Or.inr hw)) hd2 (by omega) (by simp at hn ⊢; omega)
      refine ⟨hv :: hs', ?_, by simp [i2], ?_⟩
      · unfold hdsL
        rw [e1]
        simp only
        rw [hs2, if_pos rfl, i1]
        simp
      · intro k hk hk'
        cases k with
        | zero => exact q3
        | succ k => simpa using i3 k (by simpa using hk) (by simpa using hk')

theorem rg_bey : ∀ (hs : List HV), (∀ h ∈ hs, h.nodes = 1 ∧ h.time = 1 ∧ h.arr = false) → beyH hs = (0, false)
  | [], _ => rfl
  | h :: r, q => by
    obtain ⟨a, b, c⟩ := q h (by simp)
    unfold beyH
    rw [if_neg (by omega), if_neg (by omega), if_neg (by rw [c]; simp)]
    exact rg_bey r (fun x hx => q x (by simp [hx]))
theorem rg_twi : ∀ (hs before : List HV), ((before ++ hs).map (·.name)).Nodup → twiH before hs = (0, false)
  | [], _, _ => rfl
  | h :: r, before, hn => by
    unfold twiH
    rw [if_neg ?_, rg_twi r (before ++ [h]) (by simpa using hn)]
    simp only [List.any_eq_true, beq_iff_eq, not_exists, not_and]
    intro x hx e
    rw [List.map_append, List.nodup_append] at hn
    exact hn.2.2 x.name (List.mem_map.2 ⟨x, hx, rfl⟩) h.name (by simp) e

theorem rg_read {L : List UInt8} {l : List (Nat × Option (Nat × Nat))} (hL : L = jnl 10 (l.map fun x => linR x.1 x.2)) (hne : l ≠ []) (hok : ∀ x ∈ l, x.1 < 12 ∧ ∀ y, x.2 = some y → 1 ≤ y.1 ∧ y.1 ≤ 3 ∧ y.2 < 12) (hnd : (l.map (·.1)).Nodup) (hlen : L.length ≤ 600) :
    ∃ hs, readH L = (hs, (0, 0)) ∧ hs.length = l.length ∧ ∀ k (hk : k < l.length) (hk' : k < hs.length), LinQ l[k].1 l[k].2 L.length hs[k] := by
  have hnl : l.length ≤ L.length + 1 := by
    cases l with
    | nil => exact absurd rfl hne
    | cons x r =>
      rw [hL]
      have q := ptl_len 10 (r.map fun x => linR x.1 x.2)
      simp [jnl] at q ⊢; omega
  obtain ⟨hs, e1, e2, e3⟩ := rg_lines (L := L) l 0 (L.length + 1) [] hne hok (by simpa using hL) (Nat.zero_le _) hnl
  refine ⟨hs, ?_, e2, e3⟩
  have hne' : hs ≠ [] := by
    intro q
    rw [q] at e2
    cases l with
    | nil => exact hne rfl
    | cons x r => simp at e2
  have hR : hdsR L = (hs, (L.length, false)) := by
    unfold hdsR
    rw [e1]
    simp
    exact hne'
  have hB : beyH hs = (0, false) := rg_bey hs (fun h hh => by
    obtain ⟨k, hk, rfl⟩ := List.mem_iff_getElem.mp hh
    have q := e3 k (by omega) hk
    exact ⟨q.nodes, q.time, q.arr⟩)
  have hT : twiH [] hs = (0, false) := by
    refine rg_twi hs [] ?_
    rw [List.nil_append]
    have hm : hs.map (·.name) = (l.map (·.1)).map nmR := by
      apply List.ext_getElem
      · simp [e2]
      · intro k h1 h2
        simp at h1 h2
        have q := (e3 k (by omega) h1).name
        simpa using q
    rw [hm]
    have hinj : ∀ (a : List Nat), (∀ x ∈ a, x < 12) → a.Nodup → (a.map nmR).Nodup := by
      intro a
      induction a with
      | nil => intro _ _; simp
      | cons x r ih =>
        intro hx hn
        rw [List.nodup_cons] at hn
        rw [List.map_cons, List.nodup_cons]
        refine ⟨?_, ih (fun y hy => hx y (by simp [hy])) hn.2⟩
        intro q
        obtain ⟨y, hy, e⟩ := List.mem_map.mp q
        have := nmR_inj (hx y (by simp [hy])) (hx x (by simp)) e
        subst this
        exact hn.1 hy
    exact hinj _ (fun x hx => by obtain ⟨y, hy, rfl⟩ := List.mem_map.mp hx; exact (hok y hy).1) hnd
  unfold readH
  rw [if_neg (by omega), hR]
  simp [hB, hT]
end Go.Proofs.Ytanknpmojblmcab
