/-
  RgA RgC XSpec XVal XMach XRun XRunB PlG PlP, put together.
-/
import Derived.Test.YtanknpmojblmcabLkB
import Derived.Test.YtanknpmojblmcabRgM
import Derived.Test.YtanknpmojblmcabRgO
import Derived.Deep.RegionHeld3
import Derived.Test.YtanknpmojblmcabWld
import Derived.Deep.AppendLies
import Derived.Deep.RegionLaw
import Derived.Deep.DrawnRows
import Derived.Deep.LoopGhost
import Derived.Test.YtanknpmojblmcabPlF
/-
  Ring's helpers: pick, called, ask, apart.
-/
set_option linter.unusedSimpArgs false
set_option linter.unusedVariables false
namespace Go.Proofs.Ytanknpmojblmcab
open Go.RowKit

def pickD (c : Int) : Nat := (if c < 0 then -(c + 1) else c).toNat
theorem retI {a : Nat} {b : Int} (h : b = (a : Int)) : Ending.returned (.int .i64 b) = .returned (.int .i64 (a : Int)) := by rw [h]

set_option maxHeartbeats 1000000 in
theorem rgPick (c : Int) (n : Nat) (h1 : -9223372036854775808 ≤ c) (h2 : c ≤ 9223372036854775807) (hn : 0 < n) (hn2 : n ≤ 1000) (w : World) :
    Calls Try.prog 4 #[.int .i64 c, .int .i64 (n : Int)] w fun e w' => e = .returned (.int .i64 ((pickD c % n : Nat) : Int)) ∧ w' = w := by
  have hz : (n : Int) ≠ 0 := by omega
  by_cases hc : c < 0
  · obtain ⟨d, hd⟩ : ∃ d : Nat, c = -(d : Int) - 1 := ⟨(-(c + 1)).toNat, by omega⟩
    have HP : Hid (pickD c = d) := by show _ = _; unfold pickD; rw [if_pos hc, hd]; omega
    rw [HP.out]
    subst hd
    have hc' : decide (-(d : Int) - 1 < 0) = true := by simp; omega
    go_enter Try.func4, Try.ntmps4
    go_wp2_with fail
    go_ret
    exact ⟨retI (by first | omega | (rw [Int.natCast_emod]; done) | rfl | simp), rfl⟩
  · obtain ⟨d, hd⟩ : ∃ d : Nat, c = (d : Int) := ⟨c.toNat, by omega⟩
    have HP : Hid (pickD c = d) := by show _ = _; unfold pickD; rw [if_neg hc, hd]; simp
    rw [HP.out]
    subst hd
    have hc' : decide ((d : Int) < 0) = false := by simp
    go_enter Try.func4, Try.ntmps4
    go_wp2_with fail
    go_ret
    exact ⟨retI (by first | omega | (rw [Int.natCast_emod]; done) | rfl | simp), rfl⟩

set_option maxRecDepth 100000 in
set_option maxHeartbeats 1000000 in
theorem rgCalled (i : Nat) (hi : i < 12) (w : World) :
    Calls Try.prog 24 #[.int .i64 (i : Int)] w fun e w' => e = .returned (.string (bs (nmR i))) ∧ Below w.heap.size w w' := by
  go_enter Try.func24, Try.ntmps24
  have hcv : (convert 94 9 (.slice (some ⟨w.heap.size, 0, none⟩) 2 2)).run Try.prog (w.alloc (.cells #[.int .u8 (97 + (i : Int)), .int .u8 120] 5)) = .ok (.string (bs (nmR i))) (w.alloc (.cells #[.int .u8 (97 + (i : Int)), .int .u8 120] 5)) := by
    have Y := whole_new w (.cells #[.int .u8 (97 + (i : Int)), .int .u8 120] 5 (0, 0))
    have q := run_convert_bytes_arg (P := Try.prog) (w.alloc (.cells #[.int .u8 (97 + (i : Int)), .int .u8 120] 5)) 94 5 Try.underlying94 Try.underlying5 w.heap.size 0 2 2 [97 + (i : Int), 120] rfl (fun k hk => by
      have : k = 0 ∨ k = 1 := by omega
      rcases this with rfl | rfl
      · exact whole_cell Y 0
      · exact whole_cell Y 1) 9 Try.underlying9
    rw [q]
    have e : (97 + (i : Int)).toNat = 97 + i := by omega
    simp [strOfNums, bs, nmR, e]
  have hW : Below w.heap.size w (w.alloc (.cells #[.int .u8 (97 + (i : Int)), .int .u8 120] 5)) := (Below.refl _ w).alloc (Nat.le_refl _) _
  go_wp2_with fail
  go_ret
  exact ⟨rfl, hW⟩

/-- How the head i asks. -/
def opA (i : Nat) (b : Int) : Nat := (i + pickD b % 3) % 3 + 1
set_option maxHeartbeats 1000000 in
theorem rgAsk (i : Nat) (b : Int) (hi : i ≤ 1000) (h1 : -9223372036854775808 ≤ b) (h2 : b ≤ 9223372036854775807) (w : World) :
    Calls Try.prog 25 #[.int .i64 (i : Int), .int .i64 b] w fun e w' => e = .returned (.string (bs (opR (opA i b)))) ∧ w' = w := by
  have h3 : (i + pickD b % 3) % 3 = 0 ∨ (i + pickD b % 3) % 3 = 1 ∨ (i + pickD b % 3) % 3 = 2 := by omega
  unfold opA
  go_enter Try.func25, Try.ntmps25
  go_wp2_with fail
  refine (rgPick b 3 h1 h2 (by omega) (by omega) w).mono ?_
  rintro e x1 ⟨rfl, rfl⟩
  have hk : pickD b % 3 < 3 := Nat.mod_lt _ (by omega)
  rcases h3 with h | h | h
  · have H : Hid ((i + pickD b % 3) % 3 = 0) := h
    generalize pickD b % 3 = k at h hk ⊢
    have hm : ((i : Int) + (k : Int)) % 3 = 0 := by omega
    go_wp2_with fail
    go_ret
    exact ⟨by rw [H.out]; rfl, rfl⟩
  · have H : Hid ((i + pickD b % 3) % 3 = 1) := h
    generalize pickD b % 3 = k at h hk ⊢
    have hm : ((i : Int) + (k : Int)) % 3 = 1 := by omega
    go_wp2_with fail
    go_ret
    exact ⟨by rw [H.out]; rfl, rfl⟩
  · have H : Hid ((i + pickD b % 3) % 3 = 2) := h
    generalize pickD b % 3 = k at h hk ⊢
    have hm : ((i : Int) + (k : Int)) % 3 = 2 := by omega
    go_wp2_with fail
    go_ret
    exact ⟨by rw [H.out]; rfl, rfl⟩

/-- From d on nothing divides both. -/
def aprN (a b : Nat) : Nat → Nat → Bool
  | 0, _ => true
  | f + 1, d => if d ≤ a ∧ d ≤ b then (if a % d = 0 ∧ b % d = 0 then false else aprN a b f (d + 1)) else true
def aprT : Bool := (List.range 13).all fun n => (List.range 13).all fun s => !(decide (s ≤ n) && decide (1 ≤ s)) || (aprN s n 20 2 == cop s n)
theorem aprT_ok : aprT = true := by decide
theorem apr_cop {s n : Nat} (hn : n ≤ 12) (hs : s ≤ n) (h1 : 1 ≤ s) : aprN s n 20 2 = cop s n := by
  have q := aprT_ok
  unfold aprT at q
  rw [List.all_eq_true] at q
  have q1 := q n (List.mem_range.mpr (by omega))
  rw [List.all_eq_true] at q1
  have q2 := q1 s (List.mem_range.mpr (by omega))
  simpa [hs, h1] using q2

set_option maxRecDepth 100000 in
set_option maxHeartbeats 1000000 in
theorem rgApart (a b : Nat) (ha : a ≤ 12) (hb : b ≤ 12) (w : World) :
    Calls Try.prog 5 #[.int .i64 (a : Int), .int .i64 (b : Int)] w fun e w' => e = .returned (.bool (aprN a b 20 2)) ∧ w' = w := by
  obtain ⟨R, hR⟩ : ∃ R, R = aprN a b 20 2 := ⟨_, rfl⟩
  rw [← hR]
  have HR0 : Hid (R = aprN a b 20 2) := hR
  clear hR
  go_enter Try.func5, Try.ntmps5
  go_wp2_with fail
  go_loopg [5] 21 (fun r x wr => ∃ (d : Nat), wr = w ∧ 2 ≤ d ∧ d ≤ 13 ∧ r = 23 - d ∧ x = .int .i64 (d : Int) ∧ Hid (R = aprN a b (22 - d) d))
  case atStart => exact ⟨2, rfl, by omega, by omega, rfl, rfl, HR0⟩
  case round =>
    obtain ⟨d, rfl, hd2, hd13, rfl, rfl, HR⟩ := hrel
    have HS : Hid (aprN a b (22 - d) d = if d ≤ a ∧ d ≤ b then (if a % d = 0 ∧ b % d = 0 then false else aprN a b (22 - (d + 1)) (d + 1)) else true) := by
      show _ = _
      rw [show 22 - d = (22 - (d + 1)) + 1 from by omega]
      rfl
    by_cases h1 : (d : Int) ≤ (a : Int)
    · by_cases h2 : (d : Int) ≤ (b : Int)
      · have hd0 : (d : Int) ≠ 0 := by omega
        have e1 : (a : Int) % (d : Int) = ((a % d : Nat) : Int) := (Int.natCast_emod a d).symm
        have e2 : (b : Int) % (d : Int) = ((b % d : Nat) : Int) := (Int.natCast_emod b d).symm
        obtain ⟨ra, hra⟩ : ∃ ra, ra = a % d := ⟨_, rfl⟩
        obtain ⟨rb, hrb⟩ : ∃ rb, rb = b % d := ⟨_, rfl⟩
        have HC : Hid (aprN a b (22 - d) d = if ra = 0 ∧ rb = 0 then false else aprN a b (22 - (d + 1)) (d + 1)) := by
          show _ = _
          rw [HS.out, if_pos (by omega), hra, hrb]
        have hla : ra < d := by rw [hra]; exact Nat.mod_lt _ (by omega)
        have hlb : rb < d := by rw [hrb]; exact Nat.mod_lt _ (by omega)
        rw [← hra] at e1
        rw [← hrb] at e2
        clear hra hrb
        by_cases z1 : ra = 0
        · by_cases z2 : rb = 0
          · subst z1; subst z2
            have HF : Hid (R = false) := by show _ = _; rw [HR.out, HC.out, if_pos ⟨rfl, rfl⟩]
            go_wp2_with fail
            go_ret
            exact ⟨by rw [HF.out]; rfl, rfl⟩
          · have HF : Hid (R = aprN a b (22 - (d + 1)) (d + 1)) := by show _ = _; rw [HR.out, HC.out, if_neg (by omega)]
            have z2' : ((rb : Int) == 0) = false := by rw [beq_eq_false_iff_ne]; omega
            have z1' : ((ra : Int) == 0) = true := by rw [z1]; rfl
            go_wp2_with fail
            go_roundg (23 - (d + 1))
            case measure => omega
            case rel => exact ⟨d + 1, rfl, by omega, by omega, rfl, by go_num, HF⟩
        · have HF : Hid (R = aprN a b (22 - (d + 1)) (d + 1)) := by show _ = _; rw [HR.out, HC.out, if_neg (by omega)]
          have z1' : ((ra : Int) == 0) = false := by rw [beq_eq_false_iff_ne]; omega
          go_wp2_with fail
          go_roundg (23 - (d + 1))
          case measure => omega
          case rel => exact ⟨d + 1, rfl, by omega, by omega, rfl, by go_num, HF⟩
      · have HF : Hid (R = true) := by show _ = _; rw [HR.out, HS.out, if_neg (by omega)]
        go_wp2_with fail
        go_ret
        exact ⟨by rw [HF.out]; rfl, rfl⟩
    · have HF : Hid (R = true) := by show _ = _; rw [HR.out, HS.out, if_neg (by omega)]
      go_wp2_with fail
      go_ret
      exact ⟨by rw [HF.out]; rfl, rfl⟩
end Go.Proofs.Ytanknpmojblmcab

/-
  Ring's helpers: is it the ring that was told?
-/
set_option linter.unusedSimpArgs false
set_option linter.unusedVariables false
namespace Go.Proofs.Ytanknpmojblmcab
open Go.RowKit

set_option maxRecDepth 100000 in
set_option maxHeartbeats 400000 in
theorem rgAround (v : Value) (l : List Nat) (n s : Nat) (w : World) (hN : Ns v l w) (hl : l.length = n) (hn : n ≤ 12) (hs : s ≤ 12) (hok : ∀ i, i < n → l.getD i 0 < n ∧ l.getD ((i + 1) % n) 0 = (l.getD i 0 + s) % n) :
    Calls Try.prog 9 #[v, .int .i64 (n : Int), .int .i64 (s : Int)] w fun e w' => e = .returned (.bool true) ∧ Below w.heap.size w w' := by
  obtain ⟨a, c, rfl⟩ := hN.form
  have HN : Hid (Ns (.slice a l.length c) l w) := hN
  have HLN : Hid (l.length = n) := hl
  have hln2 : l.length ≤ 12 := by omega
  have hlen0 : ((l.length : Int) != (n : Int)) = false := by simp; omega
  have hlen1 : ((l.length : Int) == (n : Int)) = true := by simp; omega
  clear hl hN

  go_enter Try.func9, Try.ntmps9
  go_wp2_with fail
  have HOK : Hid (∀ i, i < n → l.getD i 0 < n ∧ l.getD ((i + 1) % n) 0 = (l.getD i 0 + s) % n) := hok
  clear hok
  go_loopg [7] (n + 1) (fun r x wr => ∃ (i : Nat) (wz : World), wz = wr ∧ i ≤ n ∧ r = n - i + 1 ∧ x = .int .i64 (i : Int) ∧ Hid (Below w.heap.size w wz))
  case atStart => exact ⟨0, _, rfl, Nat.zero_le _, rfl, rfl, Below.refl _ _⟩
  case round =>
    obtain ⟨i, wz, rfl, hi, rfl, rfl, HB⟩ := hrel
    by_cases hlt : i < n
    · have hlt' : (i : Int) < (n : Int) := by omega
      obtain ⟨h1, h2⟩ := HOK.out i hlt
      have hm : (i + 1) % n < n := Nat.mod_lt _ (by omega)
      rcases HN.out.below HB.out with ⟨_, he⟩ | ⟨b, cap, hv, hcap, hb, hcell⟩
      · have q := HLN.out; rw [he] at q; simp at q; omega
      cases hv
      have hil : i < l.length := by rw [HLN.out]; exact hlt
      have hml : (i + 1) % n < l.length := by rw [HLN.out]; exact hm
      have l0 := hcell i hil
      have l1 := hcell ((i + 1) % n) hml
      have e0 : l[i] = l.getD i 0 := by simp [hil]
      have e1 : l[(i + 1) % n] = l.getD ((i + 1) % n) 0 := by simp [hml]
      rw [e0] at l0
      rw [e1, h2] at l1
      have hz : (n : Int) ≠ 0 := by omega
      have m1 : ((i : Int) + 1) % (n : Int) = (((i + 1) % n : Nat) : Int) := by rw [Int.natCast_emod]; rfl
      have m2 : ((l.getD i 0 : Nat) : Int) + (s : Int) = ((l.getD i 0 + s : Nat) : Int) := by omega
      obtain ⟨q, hq⟩ : ∃ q, q = (i + 1) % n := ⟨_, rfl⟩
      rw [← hq] at l1 m1 hm
      obtain ⟨k, hk⟩ : ∃ k, k = l.getD i 0 := ⟨_, rfl⟩
      rw [← hk] at l0 l1 h1
      have m3 : ((k : Int) + (s : Int)) % (n : Int) = (((k + s) % n : Nat) : Int) := by rw [Int.natCast_emod]; rfl
      obtain ⟨r, hr⟩ : ∃ r, r = (k + s) % n := ⟨_, rfl⟩
      rw [← hr] at m3 l1
      have hq2 : r < n := by rw [hr]; exact Nat.mod_lt _ (by omega)
      clear hr
      clear e0 e1 hcell h2 hml hq hk m2
      have HBd : Hid (Below w.heap.size w wz.drew) := HB.out.drew
      have b1 : ¬ (k : Int) < 0 := by omega
      have b2 : ¬ (n : Int) ≤ (k : Int) := by omega
      have b3 : ¬ n ≤ k := by omega
      have b4 : ((k : Int) < 0) = False := by simp
      have b5 : decide ((n : Int) ≤ (k : Int)) = false := by simp; omega
      have b6 : decide (n ≤ k) = false := by simp; omega
      have b7 : (0 : Int) ≤ (q : Int) := by omega
      have b8 : (q : Int) < (l.length : Int) := by rw [HLN.out]; omega
      have b10 : (i : Int) < (l.length : Int) := by rw [HLN.out]; omega
      have b9 : (q : Int) < (n : Int) := by omega
      go_wp2_with fail
      go_region
      go_wp2_with fail
      go_roundg (n - (i + 1) + 1)
      case measure => omega
      case rel => exact ⟨i + 1, _, rfl, by omega, rfl, by go_num, HBd⟩
    · have hlt' : ¬ (i : Int) < (n : Int) := by omega
      go_wp2_with fail
      go_ret
      exact ⟨rfl, HB.out⟩
end Go.Proofs.Ytanknpmojblmcab

/-
  Codes and their values, as plain functions. Nothing of a program is imported.
-/
namespace Go.Proofs.Ytanknpmojblmcab

def vAnd (a b : Nat) : Nat := if a = 2 ∨ b = 2 then 2 else if a = 1 ∧ b = 1 then 1 else 0
def vOr (a b : Nat) : Nat := if a = 1 ∨ b = 1 then 1 else if a = 2 ∧ b = 2 then 2 else 0
def knw (b : Bool) : Nat := if b then 1 else 2
/-- What the program tells of a job in the state s. -/
def vP (op : Nat) (s : Int) : Nat :=
  if s < 3 then 0 else if op = 1 then knw (s == 3) else if op = 2 then knw (s != 6) else if op = 3 then knw (s == 4 || s == 5) else 1
/-- What the document tells. -/
def vR (op : Nat) (s : Int) : Nat :=
  if s ≠ 3 ∧ s ≠ 4 ∧ s ≠ 5 ∧ s ≠ 6 then 0 else if op = 4 then 1 else if op = 1 ∧ s = 3 then 1 else if op = 2 ∧ s ≠ 6 then 1 else if op = 3 ∧ (s = 4 ∨ s = 5) then 1 else 2
theorem vP_vR {op : Nat} {s : Int} (h1 : 1 ≤ op) (h2 : op ≤ 4) (h3 : 0 ≤ s) (h4 : s ≤ 6) : vP op s = vR op s := by
  obtain ⟨n, rfl⟩ : ∃ n : Nat, s = n := ⟨s.toNat, by omega⟩
  have : n = 0 ∨ n = 1 ∨ n = 2 ∨ n = 3 ∨ n = 4 ∨ n = 5 ∨ n = 6 := by omega
  have : op = 1 ∨ op = 2 ∨ op = 3 ∨ op = 4 := by omega
  rcases this with rfl | rfl | rfl | rfl <;> rcases ‹n = 0 ∨ _› with rfl | rfl | rfl | rfl | rfl | rfl | rfl <;> rfl

def asksB (op : Nat) : Bool := decide (1 ≤ op) && decide (op ≤ 4)
/-- The program's machine: the stack (its top first), how many jobs are asked for, whether it broke. -/
def layM (v : Nat) (m : List Nat × Nat × Bool) : List Nat × Nat × Bool := if 24 ≤ m.1.length then (m.1, m.2.1, true) else (v :: m.1, m.2.1, m.2.2)
def joinV (op a b : Nat) : Nat := if op = 5 then vAnd a b else vOr a b
def joinM (op : Nat) (m : List Nat × Nat × Bool) : List Nat × Nat × Bool :=
  match m.1 with
  | b :: a :: S => layM (joinV op a b) (S, m.2.1, m.2.2)
  | _ => (m.1, m.2.1, true)
def plainM (op : Nat) (m : List Nat × Nat × Bool) : List Nat × Nat × Bool :=
  if op = 0 then layM 1 m else if op = 5 ∨ op = 6 then joinM op m else (m.1, m.2.1, true)
def askA (j a : Nat) : Nat := if a ≤ j then j + 1 else a
def askV (ns : List Int) (op j : Nat) : Nat := if j < ns.length then vP op (ns.getD j 0) else 0
def askM (ns : List Int) (op j : Nat) (m : List Nat × Nat × Bool) : List Nat × Nat × Bool :=
  if 24 ≤ j then (m.1, m.2.1, true) else layM (askV ns op j) (m.1, askA j m.2.1, m.2.2)
def runM (ns : List Int) : List UInt8 → List Nat × Nat × Bool → List Nat × Nat × Bool
  | [], m => m
  | op :: R, m => if m.2.2 then m else if asksB op.toNat then (match R with
      | [] => (m.1, m.2.1, true)
      | j :: R' => runM ns R' (askM ns op.toNat j.toNat m)) else runM ns R (plainM op.toNat m)
theorem runM_broken (ns : List Int) (L : List UInt8) (S : List Nat) (a : Nat) : runM ns L (S, a, true) = (S, a, true) := by
  cases L with
  | nil => rfl
  | cons op R => rw [runM.eq_def]; rfl
theorem runM_plain (ns : List Int) (op : UInt8) (R : List UInt8) (S : List Nat) (a : Nat) (h : ¬ asksB op.toNat = true) : runM ns (op :: R) (S, a, false) = runM ns R (plainM op.toNat (S, a, false)) := by
  rw [runM.eq_def]; simp [h]
theorem runM_ask (ns : List Int) (op j : UInt8) (R : List UInt8) (S : List Nat) (a : Nat) (h : asksB op.toNat = true) : runM ns (op :: j :: R) (S, a, false) = runM ns R (askM ns op.toNat j.toNat (S, a, false)) := by
  rw [runM.eq_def]; simp [h]
theorem runM_lack (ns : List Int) (op : UInt8) (S : List Nat) (a : Nat) (h : asksB op.toNat = true) : runM ns [op] (S, a, false) = (S, a, true) := by
  rw [runM.eq_def]; simp [h]

def areS (ns : List Int) : Bool := decide (ns.length ≤ 24) && ns.all (fun s => decide (0 ≤ s) && decide (s ≤ 6))
def runE (L : List UInt8) (ns : List Int) : Nat × Nat :=
  if 8000 < L.length then (0, 9)
  else if (runM ns L ([], 0, false)).2.2 = true ∨ (runM ns L ([], 0, false)).1.length ≠ 1 then (0, 9)
  else if ns.length < (runM ns L ([], 0, false)).2.1 ∨ areS ns = false then (0, 10)
  else ((runM ns L ([], 0, false)).1.getD 0 0, 0)

/-- The document: the operations of some bytes. -/
def opsR : List UInt8 → Option (List (Nat × Nat))
  | [] => some []
  | op :: R => if 6 < op.toNat then none else if asksB op.toNat then (match R with
      | [] => none
      | j :: R' => if 24 ≤ j.toNat then none else (opsR R').map ((op.toNat, j.toNat) :: ·)) else (opsR R).map ((op.toNat, 0) :: ·)
/-- How high the stack is behind them; none where it may not be so. -/
def stepH (op n : Nat) : Nat := if op = 5 ∨ op = 6 then n - 1 else n + 1
def finR : List (Nat × Nat) → Nat → Option Nat
  | [], n => some n
  | x :: R, n => if stepH x.1 n < 1 ∨ 24 < stepH x.1 n then none else finR R (stepH x.1 n)
/-- The stack behind some operations. -/
def opS (f : Nat → Nat → Nat) (x : Nat × Nat) (S : List Nat) : List Nat :=
  if x.1 = 0 then 1 :: S else if x.1 = 5 ∨ x.1 = 6 then (match S with
    | b :: a :: S' => joinV x.1 a b :: S'
    | _ => S) else f x.1 x.2 :: S
def stkR (f : Nat → Nat → Nat) : List (Nat × Nat) → List Nat → List Nat
  | [], S => S
  | x :: R, S => stkR f R (opS f x S)
def askd : List (Nat × Nat) → Nat → Nat
  | [], a => a
  | x :: R, a => askd R (if asksB x.1 then askA x.2 a else a)
def docV (ns : List Int) (op j : Nat) : Nat := vR op (ns.getD j 0)
def jobsOK (l : List (Nat × Nat)) (n : Nat) : Bool := l.all fun x => !(asksB x.1) || decide (x.2 < n)
def refE (L : List UInt8) (ns : List Int) : Nat × Nat :=
  if 8000 < L.length then (0, 9)
  else match opsR L with
    | none => (0, 9)
    | some l => if finR l 0 ≠ some 1 then (0, 9) else if areS ns = false then (0, 10) else if jobsOK l ns.length = false then (0, 10) else ((stkR (docV ns) l []).getD 0 0, 0)

theorem stkR_append (f : Nat → Nat → Nat) (l k : List (Nat × Nat)) (S : List Nat) : stkR f (l ++ k) S = stkR f k (stkR f l S) := by
  induction l generalizing S with
  | nil => rfl
  | cons x r ih => exact ih _

/-- The machine goes on as the document's heights do. -/
theorem opS_len (f : Nat → Nat → Nat) (x : Nat × Nat) (S : List Nat) (h : ¬ (stepH x.1 S.length < 1 ∨ 24 < stepH x.1 S.length)) : (opS f x S).length = stepH x.1 S.length := by
  unfold opS
  unfold stepH at *
  by_cases h0 : x.1 = 0
  · rw [if_pos h0, if_neg (by omega)]; rfl
  · rw [if_neg h0]
    by_cases h5 : x.1 = 5 ∨ x.1 = 6
    · rw [if_pos h5] at h ⊢
      rw [if_pos h5]
      match S, h with
      | [], h => simp at h
      | [a], h => simp at h
      | b :: a :: S', h => simp
    · rw [if_neg h5, if_neg h5]; rfl
theorem stkR_len (f : Nat → Nat → Nat) : ∀ (l : List (Nat × Nat)) (S : List Nat) (h : Nat), finR l S.length = some h → (stkR f l S).length = h
  | [], S, h, e => by simpa [finR, stkR] using e
  | x :: R, S, h, e => by
    unfold finR at e
    split at e
    · cases e
    · rename_i hn
      have q := opS_len f x S hn
      exact stkR_len f R (opS f x S) h (by rw [q]; exact e)

theorem one_step (ns : List Int) (op j : Nat) (S : List Nat) (a : Nat) (hop : op ≤ 6) (hj : asksB op = true → j < 24) (hS : S.length ≤ 24) :
    (if asksB op then askM ns op j (S, a, false) else plainM op (S, a, false)) =
    (if stepH op S.length < 1 ∨ 24 < stepH op S.length then ((if asksB op then askM ns op j (S, a, false) else plainM op (S, a, false)).1, (if asksB op then askM ns op j (S, a, false) else plainM op (S, a, false)).2.1, true)
     else (opS (askV ns) (op, j) S, (if asksB op then askA j a else a), false)) := by
  have ho : op = 0 ∨ op = 1 ∨ op = 2 ∨ op = 3 ∨ op = 4 ∨ op = 5 ∨ op = 6 := by omega
  by_cases hb : op = 5 ∨ op = 6
  · have hab : asksB op = false := by rcases hb with rfl | rfl <;> rfl
    have h0 : ¬ op = 0 := by omega
    simp only [hab, plainM, stepH, opS, if_pos hb, if_neg h0, joinM, layM]
    match S, hS with
    | [], _ => simp
    | [c], _ => simp
    | c :: d :: S', hS =>
      simp at hS
      have e1 : ¬ 24 ≤ S'.length := by omega
      have e2 : ¬ 24 < S'.length + 1 := by omega
      simp [e1, e2]
  · by_cases h0 : op = 0
    · subst h0
      have hab : asksB 0 = false := rfl
      simp only [hab, plainM, stepH, opS, layM]
      by_cases hl : 24 ≤ S.length
      · have e2 : 24 < S.length + 1 := by omega
        simp [hl, e2]
      · have e2 : ¬ 24 < S.length + 1 := by omega
        simp [hl, e2]
    · have hab : asksB op = true := by simp [asksB]; omega
      have e0 : ¬ 24 ≤ j := by have := hj hab; omega
      simp only [hab, askM, stepH, opS, layM, if_neg h0, if_neg hb, if_neg e0]
      by_cases hl : 24 ≤ S.length
      · have e2 : 24 < S.length + 1 := by omega
        simp [hl, e2]
      · have e2 : ¬ 24 < S.length + 1 := by omega
        simp [hl, e2]

theorem run_none (ns : List Int) : ∀ (L : List UInt8) (m : List Nat × Nat × Bool), opsR L = none → (runM ns L m).2.2 = true
  | [], m, h => by simp [opsR] at h
  | op :: R, m, h => by
    unfold opsR at h
    unfold runM
    by_cases hm : m.2.2 = true
    · rw [if_pos hm]; exact hm
    rw [if_neg hm]
    by_cases hop : 6 < op.toNat
    · have hab : asksB op.toNat = false := by simp [asksB]; omega
      have e : plainM op.toNat m = (m.1, m.2.1, true) := by
        unfold plainM; rw [if_neg (by omega), if_neg (by omega)]
      rw [hab, if_neg (by simp), e, runM_broken]
    · rw [if_neg hop] at h
      by_cases hab : asksB op.toNat = true
      · rw [if_pos hab] at h ⊢
        match R, h with
        | [], h => rfl
        | j :: R', h =>
          dsimp only at h ⊢
          by_cases hj : 24 ≤ j.toNat
          · have e : askM ns op.toNat j.toNat m = (m.1, m.2.1, true) := by unfold askM; rw [if_pos hj]
            rw [e, runM_broken]
          · rw [if_neg hj] at h
            exact run_none ns R' _ (by simpa using h)
      · rw [if_neg hab] at h ⊢
        exact run_none ns R _ (by simpa using h)

theorem run_some (ns : List Int) : ∀ (L : List UInt8) (l : List (Nat × Nat)) (S : List Nat) (a : Nat), S.length ≤ 24 → opsR L = some l →
    (finR l S.length = none → (runM ns L (S, a, false)).2.2 = true) ∧
    (∀ h, finR l S.length = some h → runM ns L (S, a, false) = (stkR (askV ns) l S, askd l a, false))
  | [], l, S, a, hS, h => by
    simp [opsR] at h; subst h
    simp [finR, runM, stkR, askd]
  | op :: R, l, S, a, hS, h => by
    unfold opsR at h
    by_cases hop : 6 < op.toNat
    · rw [if_pos hop] at h; cases h
    rw [if_neg hop] at h
    have key : ∀ (R' : List UInt8) (l' : List (Nat × Nat)) (j : Nat), (asksB op.toNat = true → j < 24) → R'.length ≤ R.length → opsR R' = some l' → l = (op.toNat, j) :: l' →
        runM ns (op :: R) (S, a, false) = runM ns R' (if asksB op.toNat then askM ns op.toNat j (S, a, false) else plainM op.toNat (S, a, false)) →
        (finR l S.length = none → (runM ns (op :: R) (S, a, false)).2.2 = true) ∧
        (∀ h, finR l S.length = some h → runM ns (op :: R) (S, a, false) = (stkR (askV ns) l S, askd l a, false)) := by
      intro R' l' j hj hR hl' hl hrun
      subst hl
      have st := one_step ns op.toNat j S a (by omega) hj hS
      rw [hrun]
      by_cases hc : stepH op.toNat S.length < 1 ∨ 24 < stepH op.toNat S.length
      · rw [if_pos hc] at st
        constructor
        · intro _
          rw [st, runM_broken]
        · intro h hf
          unfold finR at hf
          rw [if_pos hc] at hf; cases hf
      · rw [if_neg hc] at st
        have hlen := opS_len (askV ns) (op.toNat, j) S hc
        have ih := run_some ns R' l' (opS (askV ns) (op.toNat, j) S) (if asksB op.toNat then askA j a else a) (by rw [hlen]; show stepH op.toNat S.length ≤ 24; omega) hl'
        rw [hlen] at ih
        have ef : finR ((op.toNat, j) :: l') S.length = finR l' (stepH op.toNat S.length) := by
          rw [finR]; exact if_neg hc
        rw [ef, st]
        exact ih
    by_cases hab : asksB op.toNat = true
    · rw [if_pos hab] at h
      match R, h, key with
      | [], h, key => cases h
      | j :: R', h, key =>
        dsimp only at h
        by_cases hj : 24 ≤ j.toNat
        · rw [if_pos hj] at h; cases h
        · rw [if_neg hj] at h
          cases hq : opsR R' with
          | none => rw [hq] at h; cases h
          | some l' =>
            rw [hq] at h
            simp at h
            exact key R' l' j.toNat (fun _ => by omega) (by simp) hq h.symm (by rw [runM_ask _ _ _ _ _ _ hab, if_pos hab])
    · rw [if_neg hab] at h
      cases hq : opsR R with
      | none => rw [hq] at h; cases h
      | some l' =>
        rw [hq] at h
        simp at h
        exact key R l' 0 (fun _ => by omega) (Nat.le_refl _) hq h.symm (by rw [runM_plain _ _ _ _ _ hab, if_neg hab])
termination_by L => L.length
decreasing_by all_goals (simp only [List.length_cons]; omega)

theorem askd_le (l : List (Nat × Nat)) : ∀ (a n : Nat), a ≤ n → (askd l a ≤ n ↔ jobsOK l n = true) := by
  induction l with
  | nil => intro a n h; simp [askd, jobsOK, h]
  | cons x r ih =>
    intro a n h
    unfold askd
    have hm : ∀ (a : Nat), a ≤ askd r a := by
      clear ih h
      induction r with
      | nil => intro a; exact Nat.le_refl _
      | cons y q ih =>
        intro a
        unfold askd
        refine Nat.le_trans ?_ (ih _)
        unfold askA; split
        · split <;> omega
        · omega
    by_cases hx : asksB x.1 = true
    · rw [if_pos hx]
      by_cases hj : x.2 < n
      · rw [ih _ n (by unfold askA; split <;> omega)]
        simp [jobsOK, hx, hj]
      · constructor
        · intro h2
          have := hm (askA x.2 a)
          have h3 : x.2 + 1 ≤ askA x.2 a := by unfold askA; split <;> omega
          omega
        · intro h2
          simp [jobsOK, hx, hj] at h2
    · rw [if_neg hx, ih a n h]
      simp only [Bool.not_eq_true] at hx
      simp [jobsOK, hx]

theorem stk_same (ns : List Int) (hS : areS ns = true) : ∀ (l : List (Nat × Nat)) (S : List Nat), (∀ x ∈ l, x.1 ≤ 6) → jobsOK l ns.length = true → stkR (askV ns) l S = stkR (docV ns) l S := by
  intro l
  induction l with
  | nil => intro S _ _; rfl
  | cons x r ih =>
    intro S h6 hj
    simp only [jobsOK, List.all_cons, Bool.and_eq_true] at hj
    unfold stkR
    have e : opS (askV ns) x S = opS (docV ns) x S := by
      unfold opS
      by_cases h0 : x.1 = 0
      · rw [if_pos h0, if_pos h0]
      · rw [if_neg h0, if_neg h0]
        by_cases hb : x.1 = 5 ∨ x.1 = 6
        · rw [if_pos hb, if_pos hb]
        · rw [if_neg hb, if_neg hb]
          have h6' := h6 x (by simp)
          have ha : asksB x.1 = true := by simp [asksB]; omega
          have hlt : x.2 < ns.length := by have := hj.1; rw [ha] at this; simpa using this
          have hs : 0 ≤ ns.getD x.2 0 ∧ ns.getD x.2 0 ≤ 6 := by
            simp [areS] at hS
            have := hS.2 (ns[x.2]) (List.getElem_mem hlt)
            simpa [List.getD_eq_getElem?_getD, List.getElem?_eq_getElem hlt] using this
          congr 1
          unfold askV docV
          rw [if_pos hlt]
          exact vP_vR (by omega) (by omega) hs.1 hs.2
    rw [e]
    exact ih _ (fun y hy => h6 y (by simp [hy])) hj.2

theorem ops_six : ∀ (L : List UInt8) (l : List (Nat × Nat)), opsR L = some l → ∀ x ∈ l, x.1 ≤ 6
  | [], l, h => by simp [opsR] at h; subst h; simp
  | op :: R, l, h => by
    unfold opsR at h
    by_cases hop : 6 < op.toNat
    · rw [if_pos hop] at h; cases h
    rw [if_neg hop] at h
    by_cases hab : asksB op.toNat = true
    · rw [if_pos hab] at h
      match R, h with
      | [], h => cases h
      | j :: R', h =>
        dsimp only at h
        by_cases hj : 24 ≤ j.toNat
        · rw [if_pos hj] at h; cases h
        · rw [if_neg hj] at h
          cases hq : opsR R' with
          | none => rw [hq] at h; cases h
          | some l' =>
            rw [hq] at h
            simp at h
            subst h
            intro x hx
            rcases List.mem_cons.1 hx with rfl | hx
            · show op.toNat ≤ 6; omega
            · exact ops_six R' l' hq x hx
    · rw [if_neg hab] at h
      cases hq : opsR R with
      | none => rw [hq] at h; cases h
      | some l' =>
        rw [hq] at h
        simp at h
        subst h
        intro x hx
        rcases List.mem_cons.1 hx with rfl | hx
        · show op.toNat ≤ 6; omega
        · exact ops_six R l' hq x hx

/-- The program's Exec is the document's. -/
theorem runE_refE (L : List UInt8) (ns : List Int) : runE L ns = refE L ns := by
  unfold runE refE
  by_cases hL : 8000 < L.length
  · rw [if_pos hL, if_pos hL]
  rw [if_neg hL, if_neg hL]
  cases ho : opsR L with
  | none => rw [if_pos (Or.inl (run_none ns L _ ho))]
  | some l =>
    obtain ⟨h1, h2⟩ := run_some ns L l [] 0 (by simp) ho
    dsimp only
    cases hf : finR l 0 with
    | none => rw [if_pos (Or.inl (h1 hf)), if_pos (by simp)]
    | some h =>
      have e := h2 h hf
      have hl := stkR_len (askV ns) l [] h hf
      rw [e]
      dsimp only
      by_cases h3 : h = 1
      · subst h3
        rw [if_neg (show ¬ (false = true ∨ (stkR (askV ns) l []).length ≠ 1) by simp [hl]), if_neg (show ¬ (some 1 ≠ some 1) by simp)]
        have hk := askd_le l 0 ns.length (by omega)
        by_cases hA : areS ns = true
        · have hA' : ¬ areS ns = false := by simp [hA]
          rw [if_neg hA']
          by_cases hj : jobsOK l ns.length = true
          · have q := hk.2 hj
            have hj' : ¬ jobsOK l ns.length = false := by simp [hj]
            rw [if_neg (show ¬ (ns.length < askd l 0 ∨ areS ns = false) by simp [hA]; omega), if_neg hj', stk_same ns hA l [] (ops_six L l ho) hj]
          · have q : ¬ askd l 0 ≤ ns.length := fun z => hj (hk.1 z)
            rw [if_pos (Or.inl (by omega)), if_pos (by simpa using hj)]
        · rw [if_pos (Or.inr (by simpa using hA)), if_pos (by simpa using hA)]
      · rw [if_pos (Or.inr (by rw [hl]; exact h3)), if_pos (by simpa using h3)]

end Go.Proofs.Ytanknpmojblmcab

/-
  And, Or, and what is told of one job: of the program and of the document.
-/
set_option linter.unusedSimpArgs false
set_option linter.unusedVariables false
namespace Go.Proofs.Ytanknpmojblmcab
open Go.RowKit

theorem retn {a : Nat} {b : Int} (h : b = (a : Int)) : Ending.returned (.int .i64 b) = .returned (.int .i64 (a : Int)) := by rw [h]

set_option maxHeartbeats 1000000 in
theorem vand_any (a b : Nat) (ha : a ≤ 2) (hb : b ≤ 2) (w : World) :
    Calls Try.prog 92 #[.int .i64 (a : Int), .int .i64 (b : Int)] w fun e w' => e = .returned (.int .i64 (vAnd a b : Int)) ∧ w' = w := by
  have h1 : a = 0 ∨ a = 1 ∨ a = 2 := by omega
  have h2 : b = 0 ∨ b = 1 ∨ b = 2 := by omega
  clear ha hb
  rcases h1 with rfl | rfl | rfl <;> rcases h2 with rfl | rfl | rfl
  all_goals
    go_enter Try.func92, Try.ntmps92
    go_wp2_with fail
    go_ret
    exact ⟨rfl, rfl⟩

set_option maxHeartbeats 1000000 in
theorem vor_any (a b : Nat) (ha : a ≤ 2) (hb : b ≤ 2) (w : World) :
    Calls Try.prog 93 #[.int .i64 (a : Int), .int .i64 (b : Int)] w fun e w' => e = .returned (.int .i64 (vOr a b : Int)) ∧ w' = w := by
  have h1 : a = 0 ∨ a = 1 ∨ a = 2 := by omega
  have h2 : b = 0 ∨ b = 1 ∨ b = 2 := by omega
  clear ha hb
  rcases h1 with rfl | rfl | rfl <;> rcases h2 with rfl | rfl | rfl
  all_goals
    go_enter Try.func93, Try.ntmps93
    go_wp2_with fail
    go_ret
    exact ⟨rfl, rfl⟩

set_option maxHeartbeats 400000 in
theorem known_any (b : Bool) (w : World) :
    Calls Try.prog 94 #[.bool b] w fun e w' => e = .returned (.int .i64 (knw b : Int)) ∧ w' = w := by
  cases b
  all_goals
    go_enter Try.func94, Try.ntmps94
    go_wp2_with fail
    go_ret
    exact ⟨rfl, rfl⟩

set_option maxHeartbeats 400000 in
theorem asksJob_any (op : Nat) (h : op < 256) (w : World) :
    Calls Try.prog 82 #[.int .i64 (op : Int)] w fun e w' => e = .returned (.bool (asksB op)) ∧ w' = w := by
  by_cases h1 : 1 ≤ op
  · have h1' : (1 : Int) ≤ (op : Int) := by omega
    go_enter Try.func82, Try.ntmps82
    go_wp2_with fail
    go_ret
    refine ⟨?_, rfl⟩
    by_cases h2 : op ≤ 4 <;> simp [asksB, h1] <;> omega
  · have h1' : decide ((1 : Int) ≤ (op : Int)) = false := by simp; omega
    go_enter Try.func82, Try.ntmps82
    go_wp2_with fail
    go_ret
    exact ⟨by simp [asksB, h1], rfl⟩

theorem beqF {a b : Int} (h : a ≠ b) : (a == b) = false := by rw [beq_eq_false_iff_ne]; exact h
theorem beqT {a b : Int} (h : a = b) : (a == b) = true := by rw [beq_iff_eq]; exact h

set_option maxHeartbeats 1000000 in
theorem ofJob_any (op : Nat) (s : Int) (h1 : 1 ≤ op) (h2 : op ≤ 4) (w : World) :
    Calls Try.prog 89 #[.int .i64 (op : Int), .int .i64 s] w fun e w' => e = .returned (.int .i64 (vP op s : Int)) ∧ ∃ n, w' = w.drewN n := by
  by_cases h3 : s < 3
  · go_enter Try.func89, Try.ntmps89
    go_wp2_with fail
    go_ret
    exact ⟨by simp [vP, h3], 0, rfl⟩
  · have h3' : decide (s < (3 : Int)) = false := by simp; omega
    have hop : op = 1 ∨ op = 2 ∨ op = 3 ∨ op = 4 := by omega
    clear h1 h2
    rcases hop with rfl | rfl | rfl | rfl
    · have HV : Hid (vP 1 s = knw (s == 3)) := by show vP 1 s = _; simp [vP, h3]
      clear h3
      go_enter Try.func89, Try.ntmps89
      go_wp2_with fail
      refine (known_any _ _).mono ?_
      rintro e w1 ⟨rfl, hw1⟩
      subst hw1
      go_wp2_with fail
      go_ret
      exact ⟨by rw [HV.out]; rfl, 0, rfl⟩
    · have HV : Hid (vP 2 s = knw (s != 6)) := by show vP 2 s = _; simp [vP, h3]
      clear h3
      go_enter Try.func89, Try.ntmps89
      go_wp2_with fail
      refine (known_any _ _).mono ?_
      rintro e w1 ⟨rfl, hw1⟩
      subst hw1
      go_wp2_with fail
      go_ret
      exact ⟨by rw [HV.out]; rfl, 0, rfl⟩
    · have HV : Hid (vP 3 s = knw (s == 4 || s == 5)) := by show vP 3 s = _; simp [vP, h3]
      clear h3
      by_cases h4 : s = 4
      · subst h4
        go_enter Try.func89, Try.ntmps89
        go_wp2_with fail
        refine (known_any _ _).mono ?_
        rintro e w1 ⟨rfl, hw1⟩
        subst hw1
        go_wp2_with fail
        go_ret
        exact ⟨by rw [HV.out]; rfl, 0, rfl⟩
      · have h4' := beqF h4
        rw [h4'] at HV
        go_enter Try.func89, Try.ntmps89
        go_wp2_with fail
        refine (known_any _ _).mono ?_
        rintro e w1 ⟨rfl, hw1⟩
        subst hw1
        go_wp2_with fail
        go_ret
        exact ⟨by rw [HV.out]; rfl, 0, rfl⟩
    · have HV : Hid (vP 4 s = 1) := by show vP 4 s = _; unfold vP; rw [if_neg h3]; rfl
      clear h3
      go_enter Try.func89, Try.ntmps89
      go_wp2_with fail
      go_ret
      exact ⟨by rw [HV.out]; rfl, 0, rfl⟩

end Go.Proofs.Ytanknpmojblmcab

/-
  The program's machine: lay, join, ask, plain.
-/
set_option linter.unusedSimpArgs false
set_option linter.unusedVariables false
namespace Go.Proofs.Ytanknpmojblmcab
open Go.RowKit

attribute [local go_sem ↓] Go.wp_at_zero Go.wp_at_succ

def vI (n : Nat) : Value := .int .i64 (n : Int)
/-- The machine's block. -/
def Mc (b : Nat) (v : Value) (a : Nat) (br : Bool) (w : World) : Prop := w.heap[b]? = some (.cells #[v, .int .i64 (a : Int), .bool br] 125 (0, 0))
theorem Mc.c0 {b : Nat} {v : Value} {a : Nat} {br : Bool} {w : World} (h : Mc b v a br w) : w.cell? ⟨b, 0, none⟩ = some v := by rw [whole_cell h]; rfl
theorem Mc.c1 {b : Nat} {v : Value} {a : Nat} {br : Bool} {w : World} (h : Mc b v a br w) : w.cell? ⟨b, 1, none⟩ = some (.int .i64 (a : Int)) := by rw [whole_cell h]; rfl
theorem Mc.c2 {b : Nat} {v : Value} {a : Nat} {br : Bool} {w : World} (h : Mc b v a br w) : w.cell? ⟨b, 2, none⟩ = some (.bool br) := by rw [whole_cell h]; rfl
theorem Mc.z {b : Nat} {v : Value} {a : Nat} {br : Bool} {w : World} (h : Mc b v a br w) (k : Nat) : w.frozen? ⟨b, k, none⟩ = false := whole_frozen h k
theorem Mc.lt {b : Nat} {v : Value} {a : Nat} {br : Bool} {w : World} (h : Mc b v a br w) : b < w.heap.size := whole_lt h
theorem Mc.alloc {b : Nat} {v : Value} {a : Nat} {br : Bool} {w : World} (h : Mc b v a br w) (o : Obj) : Mc b v a br (w.alloc o) := whole_alloc h o
theorem Mc.set0 {b : Nat} {v : Value} {a : Nat} {br : Bool} {w : World} (h : Mc b v a br w) (u : Value) : Mc b u a br (w.setCell ⟨b, 0, none⟩ u) := whole_set h 0 _
theorem Mc.set1 {b : Nat} {v : Value} {a : Nat} {br : Bool} {w : World} (h : Mc b v a br w) (k : Nat) {u : Value} (hu : u = .int .i64 (k : Int)) : Mc b v k br (w.setCell ⟨b, 1, none⟩ u) := by subst hu; exact whole_set h 1 _
theorem Mc.set2 {b : Nat} {v : Value} {a : Nat} {br : Bool} {w : World} (h : Mc b v a br w) (k : Bool) : Mc b v a k (w.setCell ⟨b, 2, none⟩ (.bool k)) := whole_set h 2 _

/-- The machine with its stack. -/
def stkV (S : List Nat) : List Value := S.reverse.map vI
def MS (b : Nat) (m : List Nat × Nat × Bool) (w : World) : Prop := ∃ pa pc, Mc b (.slice pa m.1.length pc) m.2.1 m.2.2 w ∧ w.ownsRow (b + 1) 3 1 (.slice pa m.1.length pc) m.1.length (stkV m.1) ∧ m.1.length ≤ 24 ∧ ∀ x ∈ m.1, x ≤ 2

theorem owns_set {w : World} {b : Nat} {e : TypeId} {size : Nat} {v : Value} {n : Nat} {xs : List Value} (h : w.ownsRow (b + 1) e size v n xs) (i : Nat) (u : Value) : (w.setCell ⟨b, i, none⟩ u).ownsRow (b + 1) e size v n xs :=
  ownsRow_setCell_below h (by show b < b + 1; omega) u
theorem MS.fail {b : Nat} {m : List Nat × Nat × Bool} {w : World} (h : MS b m w) : MS b (m.1, m.2.1, true) (w.setCell ⟨b, 2, none⟩ (.bool true)) := by
  obtain ⟨pa, pc, h1, h2, h3⟩ := h
  exact ⟨pa, pc, h1.set2 true, owns_set h2 _ _, h3⟩
theorem MS.asked {b : Nat} {S : List Nat} {a k : Nat} {br : Bool} {w : World} (h : MS b (S, a, br) w) {u : Value} (hu : u = .int .i64 (k : Int)) : MS b (S, k, br) (w.setCell ⟨b, 1, none⟩ u) := by
  obtain ⟨pa, pc, h1, h2, h3⟩ := h
  exact ⟨pa, pc, h1.set1 k hu, owns_set h2 _ _, h3⟩
theorem MS.drewN {b : Nat} {m : List Nat × Nat × Bool} {w : World} (h : MS b m w) (n : Nat) : MS b m (w.drewN n) := h
theorem MS.lt {b : Nat} {m : List Nat × Nat × Bool} {w : World} (h : MS b m w) : b < w.heap.size := by
  obtain ⟨pa, pc, h1, h2, h3⟩ := h; exact h1.lt
theorem MS.of {b : Nat} {m m' : List Nat × Nat × Bool} {w : World} (h : MS b m w) (e : m = m') : MS b m' w := e ▸ h

theorem infoInt : (Try.prog.info? 3).map (fun i => (i.zero, i.size, i.bytes)) = some (some (.int .i64 0), 1, 8) := by kernel_rfl

set_option maxRecDepth 100000 in
set_option maxHeartbeats 2000000 in
theorem lay_any (b x : Nat) (m : List Nat × Nat × Bool) (w : World) (h : MS b m w) (hx : x ≤ 2) :
    Calls Try.prog 87 #[.pointer (some ⟨b, 0, none⟩), .int .i64 (x : Int)] w fun e w' => e = .returned (.tuple #[]) ∧ MS b (layM x m) w' ∧ Below b w w' := by
  obtain ⟨i0, hi, hz0, hz1, hz2⟩ := info_parts infoInt
  obtain ⟨S, a, br⟩ := m
  have H0 : Hid (MS b (S, a, br) w) := h
  obtain ⟨pa, pc, h1, hown, hl, hv⟩ := h
  have hbl := h1.lt
  have q0 := h1.c0; have q2 := h1.c2; have z0 := h1.z 0; have z2 := h1.z 2
  dsimp only at q0 q2 hown hl hv
  by_cases hf : 24 ≤ S.length
  · have hf' : (24 : Int) ≤ (S.length : Int) := by omega
    go_enter Try.func87, Try.ntmps87
    go_wp2_with fail
    (try simp only [Exit.inBlock, Exit.then]); refine bodyPost_ret (results_none rfl _ _ _) rfl ?_
    refine ⟨rfl, ?_, (Below.refl b w).setCell (Nat.le_refl _) _⟩
    have : layM x (S, a, br) = (S, a, true) := by unfold layM; rw [if_pos hf]
    rw [this]
    exact H0.out.fail
  · have hf' : decide ((24 : Int) ≤ (S.length : Int)) = false := by simp; omega
    have HL : Hid (layM x (S, a, br) = (x :: S, a, br)) := by show layM x (S, a, br) = _; unfold layM; rw [if_neg hf]
    clear H0 hf
    go_enter Try.func87, Try.ntmps87
    go_wp2_with (at_builtin; refine wpList_append_lies _ rfl _ _ 28 rfl (b + 1) 3 i0 (.int .i64 0) 1 8 Try.underlying28 hi hz0 hz1 hz2 rfl (by decide) _ S.length (stkV S) rfl (hown.alloc _) ⟨w.heap.size, 0, none⟩ 1 1 [.int .i64 (x : Int)] rfl rfl (World.news_of_block (cs := #[.int .i64 (x : Int)]) (t := 3) (fr := (0, 0)) (heap_alloc_new w _)) ?c2 (by decide) ?c3 ?c4 ?c5 _ rfl ?_)
    case c2 => first | rfl | (intro u hu; simp at hu; subst hu; rfl)
    case c3 => unfold maxLen; omega
    case c4 => omega
    case c5 => first | omega | (simp; omega)
    intro g cap w1 hown1 hgrow hat hlt
    have hne : ∀ k, k ≤ b → some k ≠ (Value.slice pa S.length pc).ownBlock := by
      intro k hk e
      have := (hown.lt k e.symm).1; omega
    have m1 : Mc b _ a br w1 := (hgrow.block b (by simp; omega) (hne b (Nat.le_refl _))).trans (h1.alloc (.cells #[.int .i64 (x : Int)] 3))
    have hB : Below b w w1 := ((Below.refl b w).alloc (by omega) (.cells #[.int .i64 (x : Int)] 3)).trans ⟨hgrow.os, hgrow.tape, hgrow.output, hgrow.size, fun k hk => hgrow.block k (by simp; omega) (hne k (by omega))⟩
    have y0 := m1.c0; have yz := m1.z 0
    clear hgrow hat hlt q0 q2 z0 z2 hown h1 hne
    go_wp2_with fail
    go_end0
    refine ⟨rfl, ?_, hB.setCell (Nat.le_refl _) _⟩
    rw [HL.out]
    refine ⟨some ⟨g, 0, none⟩, cap, m1.set0 _, ?_, by simp; simp at hf'; omega, by
      intro u hu
      rcases List.mem_cons.1 hu with rfl | hu
      · exact hx
      · exact hv u hu⟩
    have := owns_set hown1 0 (.slice (some ⟨g, 0, none⟩) (S.length + 1) cap)
    simpa [stkV, vI] using this

theorem vAnd_le (a b : Nat) : vAnd a b ≤ 2 := by unfold vAnd; split <;> (try split) <;> omega
theorem vOr_le (a b : Nat) : vOr a b ≤ 2 := by unfold vOr; split <;> (try split) <;> omega
theorem knw_le (b : Bool) : knw b ≤ 2 := by cases b <;> decide
theorem vP_le (op : Nat) (s : Int) : vP op s ≤ 2 := by
  unfold vP
  repeat' split
  all_goals first | exact knw_le _ | omega

theorem owns_take2 {w : World} {base : Nat} {e : TypeId} {pa : Option Addr} {n cap : Nat} {xs ys : List Value} (hx : xs.length = n) (hy : ys.length = 2)
    (h : w.ownsRow base e 1 (.slice pa (n + 2) cap) (n + 2) (xs ++ ys)) : w.ownsRow base e 1 (.slice pa n cap) n xs := by
  obtain ⟨_, h2⟩ := h
  rcases h2 with ⟨h0, _⟩ | ⟨g', cap', cur, hv, hg, hh, hn, hcap, hsz, htake⟩
  · cases h0
  · cases hv
    refine ⟨by omega, .inr ⟨g', cap, cur, rfl, hg, hh, by omega, hcap, hsz, ?_⟩⟩
    have h3 : (cur.toList.take ((n + 2) * 1)).take (n * 1) = (xs ++ ys).take (n * 1) := by rw [htake]
    rw [List.take_take, Nat.min_eq_left (by omega)] at h3
    rw [h3]
    simp [hx]

theorem row_cellI {w : World} {base : Nat} {e : TypeId} {g n cap : Nat} {xs : List Value} (h : w.ownsRow base e 1 (.slice (some ⟨g, 0, none⟩) n cap) n xs) (j : Nat) (hj : j < n) : w.cell? ⟨g, j, none⟩ = xs[j]? := by
  rw [h.cellAt j (by omega)]

set_option maxRecDepth 100000 in
set_option maxHeartbeats 2000000 in
theorem join_any (b op : Nat) (m : List Nat × Nat × Bool) (w : World) (h : MS b m w) (hop : op = 5 ∨ op = 6) :
    Calls Try.prog 88 #[.pointer (some ⟨b, 0, none⟩), .int .i64 (op : Int)] w fun e w' => e = .returned (.tuple #[]) ∧ MS b (joinM op m) w' ∧ Below b w w' := by
  obtain ⟨S, a, br⟩ := m
  have H0 : Hid (MS b (S, a, br) w) := h
  obtain ⟨pa, pc, h1, hown, hl, hv⟩ := h
  have hbl := h1.lt
  have q0 := h1.c0; have q2 := h1.c2; have z0 := h1.z 0; have z2 := h1.z 2
  dsimp only at q0 q2 hown hl hv
  by_cases hf : S.length < 2
  · have hf' : ((S.length : Int) - 2) < 0 := by omega
    have HL : Hid (joinM op (S, a, br) = (S, a, true)) := by
      show joinM op (S, a, br) = _
      unfold joinM
      match S, hf with
      | [], _ => rfl
      | [x], _ => rfl
    clear hf hown
    go_enter Try.func88, Try.ntmps88
    go_wp2_with fail
    (try simp only [Exit.inBlock, Exit.then]); refine bodyPost_ret (results_none rfl _ _ _) rfl ?_
    refine ⟨rfl, ?_, (Below.refl b w).setCell (Nat.le_refl _) _⟩
    rw [HL.out]
    exact H0.out.fail
  · obtain ⟨y, x, S', rfl⟩ : ∃ y x S', S = y :: x :: S' := by
      match S, hf with
      | [], hf => exact absurd (by simp) hf
      | [x], hf => exact absurd (by simp) hf
      | y :: x :: S', _ => exact ⟨y, x, S', rfl⟩
    have hx := hv x (by simp)
    have hy := hv y (by simp)
    have HL : Hid (joinM op (y :: x :: S', a, br) = layM (joinV op x y) (S', a, br)) := rfl
    have e0 : stkV (y :: x :: S') = stkV S' ++ [vI x, vI y] := by simp [stkV]
    have hlenS : (stkV S').length = S'.length := by simp [stkV]
    have eN : (y :: x :: S').length = S'.length + 2 := rfl
    rw [e0, eN] at hown
    rw [eN] at q0 h1 hl
    obtain ⟨g, rfl⟩ : ∃ g, pa = some ⟨g, 0, none⟩ := by
      rcases hown.2 with ⟨hq, _⟩ | ⟨g, cap, cur, hq, _⟩
      · cases hq
      · cases hq; exact ⟨g, rfl⟩
    have hcap : S'.length + 2 ≤ pc := by
      rcases hown.2 with ⟨hq, _⟩ | ⟨g, cap, cur, hq, _, _, hh, _⟩
      · cases hq
      · cases hq; exact hh
    have cx := row_cellI hown S'.length (by omega)
    have cy := row_cellI hown (S'.length + 1) (by omega)
    rw [List.getElem?_append_right (by omega), hlenS] at cx cy
    simp [vI] at cx cy
    have hown' := owns_take2 (n := S'.length) hlenS rfl hown
    have hgb : g ≠ b := by
      intro e
      have := (hown.lt g rfl).1; omega
    have hv' : ∀ u ∈ S', u ≤ 2 := fun u hu => hv u (by simp [hu])
    have hV : Hid (∀ u ∈ S', u ≤ 2) := hv'
    clear hv hv' hf H0 e0 hown eN
    generalize hN : S'.length = N at *
    have eN1 : ((N + 2 : Nat) : Int) - 2 = (N : Int) := by omega
    have eN2 : ((N : Nat) : Int) + 2 - 2 = (N : Int) := by omega
    have M1 : Hid (MS b (S', a, br) (w.setCell ⟨b, 0, none⟩ (.slice (some ⟨g, 0, none⟩) N pc))) := by
      refine ⟨some ⟨g, 0, none⟩, pc, ?_, ?_, ?_, hV.out⟩
      · dsimp only; rw [hN]; exact h1.set0 _
      · dsimp only; rw [hN]; exact owns_set hown' _ _
      · dsimp only; omega
    have B1 : Below b w (w.setCell ⟨b, 0, none⟩ (.slice (some ⟨g, 0, none⟩) N pc)) := (Below.refl b w).setCell (Nat.le_refl _) _
    rcases hop with rfl | rfl
    · go_enter Try.func88, Try.ntmps88
      go_wp2_with fail
      refine (vand_any x y hx hy _).mono ?_
      rintro e w1 ⟨rfl, hw1⟩
      subst hw1
      go_wp2_with fail
      refine (lay_any b (vAnd x y) (S', a, br) _ M1.out (vAnd_le x y)).mono ?_
      rintro e w1 ⟨rfl, hm, hB⟩
      go_wp2_with fail
      go_end0
      exact ⟨rfl, hm, B1.trans hB⟩
    · go_enter Try.func88, Try.ntmps88
      go_wp2_with fail
      refine (vor_any x y hx hy _).mono ?_
      rintro e w1 ⟨rfl, hw1⟩
      subst hw1
      go_wp2_with fail
      refine (lay_any b (vOr x y) (S', a, br) _ M1.out (vOr_le x y)).mono ?_
      rintro e w1 ⟨rfl, hm, hB⟩
      go_wp2_with fail
      go_end0
      exact ⟨rfl, hm, B1.trans hB⟩

end Go.Proofs.Ytanknpmojblmcab

/-
  The program's machine: ask, plain, run; Run and Exec.
-/
set_option linter.unusedSimpArgs false
set_option linter.unusedVariables false
namespace Go.Proofs.Ytanknpmojblmcab
open Go.RowKit

/-- A slice of numbers that can be read. -/
def Ints (u : Value) (ns : List Int) (w : World) : Prop :=
  (u = .slice none 0 0 ∧ ns = []) ∨ ∃ g cap, u = .slice (some ⟨g, 0, none⟩) ns.length cap ∧ ns.length ≤ cap ∧ g < w.heap.size ∧ ∀ k, (hk : k < ns.length) → w.cell? ⟨g, k, none⟩ = some (.int .i64 ns[k])
/-- and lies below N. -/
def IntsB (N : Nat) (u : Value) (ns : List Int) (w : World) : Prop :=
  (u = .slice none 0 0 ∧ ns = []) ∨ ∃ g cap, u = .slice (some ⟨g, 0, none⟩) ns.length cap ∧ ns.length ≤ cap ∧ g < N ∧ ∀ k, (hk : k < ns.length) → w.cell? ⟨g, k, none⟩ = some (.int .i64 ns[k])
theorem IntsB.kept {N : Nat} {u : Value} {ns : List Int} {w w' : World} (h : IntsB N u ns w) (b : Below N w w') : IntsB N u ns w' := by
  rcases h with h | ⟨g, cap, h1, h2, h3, h4⟩
  · exact Or.inl h
  · exact Or.inr ⟨g, cap, h1, h2, h3, fun k hk => (b.cell h3).trans (h4 k hk)⟩
theorem IntsB.mono {N M : Nat} {u : Value} {ns : List Int} {w : World} (h : IntsB N u ns w) (b : N ≤ M) : IntsB M u ns w := by
  rcases h with h | ⟨g, cap, h1, h2, h3, h4⟩
  · exact Or.inl h
  · exact Or.inr ⟨g, cap, h1, h2, by omega, h4⟩
theorem IntsB.form {N : Nat} {u : Value} {ns : List Int} {w : World} (h : IntsB N u ns w) : ∃ a c, u = .slice a ns.length c := by
  rcases h with ⟨rfl, rfl⟩ | ⟨g, cap, rfl, _⟩
  · exact ⟨_, _, rfl⟩
  · exact ⟨_, _, rfl⟩

set_option maxHeartbeats 1000000 in
theorem ask_any (b op j : Nat) (u : Value) (ns : List Int) (m : List Nat × Nat × Bool) (w : World) (h : MS b m w) (hu : IntsB b u ns w) (hop1 : 1 ≤ op) (hop2 : op ≤ 4) (hj : j < 256) :
    Calls Try.prog 84 #[.pointer (some ⟨b, 0, none⟩), .int .i64 (op : Int), .int .i64 (j : Int), u] w fun e w' => e = .returned (.tuple #[]) ∧ MS b (askM ns op j m) w' ∧ Below b w w' := by
  obtain ⟨S, a, br⟩ := m
  have hB0 := Below.refl b w
  have H0 : Hid (MS b (S, a, br) w) := h
  obtain ⟨pa, pc, h1, hown, hl, hv⟩ := h
  have q1 := h1.c1; have q2 := h1.c2; have z1 := h1.z 1; have z2 := h1.z 2
  dsimp only at q1 q2
  clear hown hl hv h1
  by_cases hf : 24 ≤ j
  · have hf' : (24 : Int) ≤ (j : Int) := by omega
    go_enter Try.func84, Try.ntmps84
    go_wp2_with fail
    (try simp only [Exit.inBlock, Exit.then]); refine bodyPost_ret (results_none rfl _ _ _) rfl ?_
    refine ⟨rfl, ?_, hB0.setCell (Nat.le_refl _) _⟩
    have : askM ns op j (S, a, br) = (S, a, true) := by unfold askM; rw [if_pos hf]
    rw [this]
    exact H0.out.fail
  · have hf' : decide ((24 : Int) ≤ (j : Int)) = false := by simp; omega
    have HL : Hid (askM ns op j (S, a, br) = layM (askV ns op j) (S, askA j a, br)) := by show askM ns op j (S, a, br) = _; unfold askM; rw [if_neg hf]
    -- behind the first two tests the world is w0, with the number set
    have HA : ∃ w0, MS b (S, askA j a, br) w0 ∧ Below b w w0 ∧ ((a ≤ j ∧ w0 = w.setCell ⟨b, 1, none⟩ (.int .i64 ((j : Int) + 1))) ∨ (j < a ∧ w0 = w)) := by
      by_cases ha : a ≤ j
      · refine ⟨_, ?_, hB0.setCell (p := ⟨b, 1, none⟩) (Nat.le_refl _) (.int .i64 ((j : Int) + 1)), Or.inl ⟨ha, rfl⟩⟩
        have : askA j a = j + 1 := by unfold askA; rw [if_pos ha]
        rw [this]
        exact H0.out.asked (by simp)
      · refine ⟨w, ?_, hB0, Or.inr ⟨by omega, rfl⟩⟩
        have : askA j a = a := by unfold askA; rw [if_neg ha]
        rw [this]
        exact H0.out
    obtain ⟨w0, hm0, hB, hw0⟩ := HA
    have hu0 := hu.kept hB
    clear H0 hf hu
    have HM : Hid (MS b (S, askA j a, br) w0) := hm0
    clear hm0
    by_cases hjn : j < ns.length
    · have HV : Hid (askV ns op j = vP op ns[j]) := by
        show askV ns op j = _
        unfold askV; rw [if_pos hjn]; simp [List.getD_eq_getElem?_getD, List.getElem?_eq_getElem hjn]
      rcases hu0 with ⟨rfl, rfl⟩ | ⟨g, cap, rfl, hc, hg, hcell⟩
      · simp at hjn
      have cj := hcell j hjn
      have hjn' : (j : Int) < (ns.length : Int) := by omega
      have hjn2 : decide ((ns.length : Int) ≤ (j : Int)) = false := by simp; omega
      clear hcell
      generalize ns[j] = s at *
      rcases hw0 with ⟨ha, rfl⟩ | ⟨ha, rfl⟩
      · have ha' : (a : Int) ≤ (j : Int) := by omega
        go_enter Try.func84, Try.ntmps84
        go_wp2_with fail
        refine (ofJob_any op s hop1 hop2 _).mono ?_
        rintro e w1 ⟨rfl, n1, hw1⟩
        subst hw1
        go_wp2_with fail
        refine (lay_any b (vP op s) (S, askA j a, br) _ (HM.out.drewN n1) (vP_le _ _)).mono ?_
        rintro e w1 ⟨rfl, hm, hB1⟩
        go_wp2_with fail
        go_end0
        refine ⟨rfl, ?_, (below_drewN hB n1).trans hB1⟩
        rw [HL.out, HV.out]; exact hm
      · have ha' : decide ((a : Int) ≤ (j : Int)) = false := by simp; omega
        go_enter Try.func84, Try.ntmps84
        go_wp2_with fail
        refine (ofJob_any op s hop1 hop2 _).mono ?_
        rintro e w1 ⟨rfl, n1, hw1⟩
        subst hw1
        go_wp2_with fail
        refine (lay_any b (vP op s) (S, askA j a, br) _ (HM.out.drewN n1) (vP_le _ _)).mono ?_
        rintro e w1 ⟨rfl, hm, hB1⟩
        go_wp2_with fail
        go_end0
        refine ⟨rfl, ?_, (below_drewN hB n1).trans hB1⟩
        rw [HL.out, HV.out]; exact hm
    · have HV : Hid (askV ns op j = 0) := by show askV ns op j = _; unfold askV; rw [if_neg hjn]
      obtain ⟨pa', pc', rfl⟩ := hu0.form
      have hjn' : (ns.length : Int) ≤ (j : Int) := by omega
      rcases hw0 with ⟨ha, rfl⟩ | ⟨ha, rfl⟩
      · have ha' : (a : Int) ≤ (j : Int) := by omega
        go_enter Try.func84, Try.ntmps84
        go_wp2_with fail
        refine (lay_any b 0 (S, askA j a, br) _ HM.out (by omega)).mono ?_
        rintro e w1 ⟨rfl, hm, hB1⟩
        go_wp2_with fail
        (try simp only [Exit.inBlock, Exit.then]); refine bodyPost_ret (results_none rfl _ _ _) rfl ?_
        refine ⟨rfl, ?_, hB.trans hB1⟩
        rw [HL.out, HV.out]; exact hm
      · have ha' : decide ((a : Int) ≤ (j : Int)) = false := by simp; omega
        go_enter Try.func84, Try.ntmps84
        go_wp2_with fail
        refine (lay_any b 0 (S, askA j a, br) _ HM.out (by omega)).mono ?_
        rintro e w1 ⟨rfl, hm, hB1⟩
        go_wp2_with fail
        (try simp only [Exit.inBlock, Exit.then]); refine bodyPost_ret (results_none rfl _ _ _) rfl ?_
        refine ⟨rfl, ?_, hB.trans hB1⟩
        rw [HL.out, HV.out]; exact hm

set_option maxHeartbeats 1000000 in
theorem plain_any (b op : Nat) (m : List Nat × Nat × Bool) (w : World) (h : MS b m w) :
    Calls Try.prog 83 #[.pointer (some ⟨b, 0, none⟩), .int .i64 (op : Int)] w fun e w' => e = .returned (.tuple #[]) ∧ MS b (plainM op m) w' ∧ Below b w w' := by
  obtain ⟨S, a, br⟩ := m
  have hB0 := Below.refl b w
  have H0 : Hid (MS b (S, a, br) w) := h
  obtain ⟨pa, pc, h1, hown, hl, hv⟩ := h
  have q2 := h1.c2; have z2 := h1.z 2
  dsimp only at q2
  clear hown hl hv h1
  by_cases h0 : op = 0
  · subst h0
    go_enter Try.func83, Try.ntmps83
    go_wp2_with fail
    refine (lay_any b 1 (S, a, br) _ H0.out (by omega)).mono ?_
    rintro e w1 ⟨rfl, hm, hB1⟩
    go_wp2_with fail
    go_end0
    exact ⟨rfl, hm, hB1⟩
  · have h0' : ((op : Int) == 0) = false := by rw [beq_eq_false_iff_ne]; omega
    by_cases h5 : op = 5
    · subst h5
      go_enter Try.func83, Try.ntmps83
      go_wp2_with fail
      refine (join_any b 5 (S, a, br) _ H0.out (Or.inl rfl)).mono ?_
      rintro e w1 ⟨rfl, hm, hB1⟩
      go_wp2_with fail
      go_end0
      exact ⟨rfl, hm, hB1⟩
    · have h5' : ((op : Int) == 5) = false := by rw [beq_eq_false_iff_ne]; omega
      by_cases h6 : op = 6
      · subst h6
        go_enter Try.func83, Try.ntmps83
        go_wp2_with fail
        refine (join_any b 6 (S, a, br) _ H0.out (Or.inr rfl)).mono ?_
        rintro e w1 ⟨rfl, hm, hB1⟩
        go_wp2_with fail
        go_end0
        exact ⟨rfl, hm, hB1⟩
      · have h6' : ((op : Int) == 6) = false := by rw [beq_eq_false_iff_ne]; omega
        have HL : Hid (plainM op (S, a, br) = (S, a, true)) := by
          show plainM op (S, a, br) = _
          unfold plainM; rw [if_neg h0, if_neg (by omega)]
        clear h0 h5 h6
        go_enter Try.func83, Try.ntmps83
        go_wp2_with fail
        go_end0
        refine ⟨rfl, ?_, hB0.setCell (Nat.le_refl _) _⟩
        rw [HL.out]
        exact H0.out.fail

end Go.Proofs.Ytanknpmojblmcab

/-
  The machine's run; areStates; Run and Exec.
-/
set_option linter.unusedSimpArgs false
set_option linter.unusedVariables false
namespace Go.Proofs.Ytanknpmojblmcab
open Go.RowKit

theorem drop_T (T : ByteArray) (k : Nat) (h : k < T.size) : T.data.toList.drop k = T[k] :: T.data.toList.drop (k + 1) := by
  have h' : k < T.data.toList.length := by simpa using h
  rw [List.drop_eq_getElem_cons h']
  rfl

set_option maxHeartbeats 2000000 in
theorem run_any (b : Nat) (T : ByteArray) (u : Value) (ns : List Int) (m0 : List Nat × Nat × Bool) (w : World) (h : MS b m0 w) (hu : IntsB b u ns w) (hT : T.size ≤ 8000) :
    Calls Try.prog 75 #[.pointer (some ⟨b, 0, none⟩), .string T, u] w fun e w' => e = .returned (.tuple #[]) ∧ MS b (runM ns T.data.toList m0) w' ∧ Below b w w' := by
  have hlen : T.data.toList.length = T.size := by simp
  go_enter Try.func75, Try.ntmps75
  go_wp2_with fail
  go_loopg [6] (T.size + 1) (fun r x wr => ∃ (k : Nat) (m : List Nat × Nat × Bool), k ≤ T.size ∧ r = T.size - k + 1 ∧ x = .int .i64 (k : Int) ∧ MS b m wr ∧ Below b w wr ∧ Hid (runM ns (T.data.toList.drop k) m = runM ns T.data.toList m0))
  case atStart => exact ⟨0, m0, Nat.zero_le _, rfl, rfl, h, Below.refl b w, rfl⟩
  case round =>
    obtain ⟨k, m, hk, rfl, rfl, hm, hB, HR⟩ := hrel
    obtain ⟨S, a, br⟩ := m
    have hu1 := hu.kept hB
    have HM : Hid (MS b (S, a, br) wr) := hm
    obtain ⟨pa, pc, h1, -⟩ := hm
    have q2 := h1.c2; have z2 := h1.z 2
    dsimp only at q2
    clear h1
    by_cases hlt : k < T.size
    · have hlt' : (k : Int) < (T.size : Int) := by omega
      have HD : Hid (T.data.toList.drop k = T[k] :: T.data.toList.drop (k + 1)) := drop_T T k hlt
      cases br with
      | true =>
        go_wp2_with fail
        go_end0
        rw [HR.out.symm, runM_broken]
        exact ⟨rfl, HM.out, hB⟩
      | false =>
        have hop := T[k].toNat_lt
        go_wp2_with fail
        refine (asksJob_any T[k].toNat hop _).mono ?_
        rintro e w1 ⟨rfl, hw1⟩
        subst hw1
        cases hab : asksB T[k].toNat with
        | false =>
          have HN : Hid (runM ns (T.data.toList.drop (k + 1)) (plainM T[k].toNat (S, a, false)) = runM ns T.data.toList m0) := by
            show _ = _
            rw [← HR.out, HD.out, runM_plain _ _ _ _ _ (by simp [hab])]
          go_wp2_with fail
          refine (plain_any b T[k].toNat (S, a, false) _ HM.out).mono ?_
          rintro e w2 ⟨rfl, hm2, hB2⟩
          go_wp2_with fail
          go_roundg (T.size - (k + 1) + 1)
          case measure => omega
          case rel => exact ⟨k + 1, _, by omega, rfl, by go_num, hm2, hB.trans hB2, HN⟩
        | true =>
          have ho : 1 ≤ T[k].toNat ∧ T[k].toNat ≤ 4 := by simpa [asksB] using hab
          by_cases hl2 : k + 1 < T.size
          · have hl2' : ((k : Int) + 1) < (T.size : Int) := by omega
            have hl2'' : decide ((T.size : Int) ≤ (k : Int) + 1) = false := by simp; omega
            have HD2 : Hid (T.data.toList.drop (k + 1) = T[k + 1] :: T.data.toList.drop (k + 2)) := drop_T T (k + 1) hl2
            have HN : Hid (runM ns (T.data.toList.drop (k + 2)) (askM ns T[k].toNat T[k + 1].toNat (S, a, false)) = runM ns T.data.toList m0) := by
              show _ = _
              rw [← HR.out, HD.out, HD2.out, runM_ask _ _ _ _ _ _ hab]
            have hj := T[k + 1].toNat_lt
            clear hab
            go_wp2_with fail
            refine (ask_any b T[k].toNat T[k + 1].toNat u ns (S, a, false) _ HM.out hu1 ho.1 ho.2 hj).mono ?_
            rintro e w2 ⟨rfl, hm2, hB2⟩
            go_wp2_with fail
            go_roundg (T.size - (k + 2) + 1)
            case measure => omega
            case rel => exact ⟨k + 2, _, by omega, rfl, by go_num, hm2, hB.trans hB2, HN⟩
          · have hl2' : (T.size : Int) ≤ (k : Int) + 1 := by omega
            have HN : Hid (runM ns T.data.toList m0 = (S, a, true)) := by
              show _ = _
              rw [← HR.out, HD.out, List.drop_eq_nil_of_le (by omega), runM_lack _ _ _ _ hab]
            clear hab
            go_wp2_with fail
            (try simp only [Exit.inBlock, Exit.then]); refine bodyPost_ret (results_none rfl _ _ _) rfl ?_
            rw [HN.out]
            exact ⟨rfl, HM.out.fail, hB.setCell (Nat.le_refl _) _⟩
    · have hlt' : decide ((k : Int) < (T.size : Int)) = false := by simp; omega
      have HN : Hid (runM ns T.data.toList m0 = (S, a, br)) := by
        show _ = _
        rw [← HR.out, List.drop_eq_nil_of_le (by omega)]
        rfl
      go_wp2_with fail
      go_end0
      rw [HN.out]
      exact ⟨rfl, HM.out, hB⟩

def okS (s : Int) : Bool := decide (0 ≤ s) && decide (s ≤ 6)
theorem areS_no {ns : List Int} {k : Nat} (hk : k < ns.length) (h : ns[k] < 0 ∨ 6 < ns[k]) : areS ns = false := by
  have : ns.all (fun s => decide (0 ≤ s) && decide (s ≤ 6)) = false := by
    rw [List.all_eq_false]
    exact ⟨ns[k], List.getElem_mem hk, by simp; omega⟩
  simp [areS, this]
theorem areS_yes {ns : List Int} (hl : ns.length ≤ 24) (h : ∀ k (hk : k < ns.length), 0 ≤ ns[k] ∧ ns[k] ≤ 6) : areS ns = true := by
  simp only [areS, Bool.and_eq_true, decide_eq_true_eq, List.all_eq_true]
  refine ⟨hl, ?_⟩
  intro s hs
  obtain ⟨k, hk, rfl⟩ := List.getElem_of_mem hs
  exact h k hk

set_option maxHeartbeats 2000000 in
theorem areStates_any (N : Nat) (u : Value) (ns : List Int) (w : World) (hu : IntsB N u ns w) :
    Calls Try.prog 76 #[u] w fun e w' => e = .returned (.bool (areS ns)) ∧ w' = w := by
  rcases hu with ⟨rfl, rfl⟩ | ⟨g, cap, rfl, hc, hg, hcell⟩
  · go_enter Try.func76, Try.ntmps76
    go_wp2_with fail
    go_loopg [10] 1 (fun r x wr => r = 1 ∧ x = .int .i64 0 ∧ wr = w)
    case atStart => exact ⟨rfl, rfl, rfl⟩
    case round =>
      obtain ⟨rfl, rfl, rfl⟩ := hrel
      go_wp2_with fail
      go_ret
      exact ⟨rfl, rfl⟩
  · by_cases hb : 24 < ns.length
    · have hb' : (24 : Int) < (ns.length : Int) := by omega
      have HA : Hid (areS ns = false) := by show areS ns = false; simp [areS]; omega
      clear hb hcell
      go_enter Try.func76, Try.ntmps76
      go_wp2_with fail
      go_ret
      rw [HA.out]
      exact ⟨rfl, rfl⟩
    · have hb' : decide ((24 : Int) < (ns.length : Int)) = false := by simp; omega
      have HC : Hid _ := hcell
      clear hcell
      go_enter Try.func76, Try.ntmps76
      go_wp2_with fail
      go_loopg [10] (ns.length + 1) (fun r x wr => ∃ k : Nat, k ≤ ns.length ∧ r = ns.length - k + 1 ∧ x = .int .i64 (k : Int) ∧ wr = w ∧ Hid (∀ i (hi : i < ns.length), i < k → 0 ≤ ns[i] ∧ ns[i] ≤ 6))
      case atStart => exact ⟨0, Nat.zero_le _, rfl, rfl, rfl, fun i hi h0 => by omega⟩
      case round =>
        obtain ⟨k, hk, rfl, rfl, rfl, HI⟩ := hrel
        by_cases hlt : k < ns.length
        · have hlt' : (k : Int) < (ns.length : Int) := by omega
          have ck := HC.out k hlt
          by_cases hn : ns[k] < 0
          · have HA : Hid (areS ns = false) := areS_no hlt (Or.inl hn)
            generalize ns[k] = s at *
            go_wp2_with fail
            go_ret
            rw [HA.out]
            exact ⟨rfl, rfl⟩
          · have hn' : decide (ns[k] < 0) = false := by simp; omega
            by_cases hn6 : 6 < ns[k]
            · have HA : Hid (areS ns = false) := areS_no hlt (Or.inr hn6)
              generalize ns[k] = s at *
              go_wp2_with fail
              go_ret
              rw [HA.out]
              exact ⟨rfl, rfl⟩
            · have hn6' : decide (6 < ns[k]) = false := by simp; omega
              have HI2 : Hid (∀ i (hi : i < ns.length), i < k + 1 → 0 ≤ ns[i] ∧ ns[i] ≤ 6) := by
                intro i hi hi2
                by_cases hik : i = k
                · subst hik; omega
                · exact HI.out i hi (by omega)
              clear hn hn6
              generalize ns[k] = s at *
              go_wp2_with fail
              go_roundg (ns.length - (k + 1) + 1)
              case measure => omega
              case rel => exact ⟨k + 1, by omega, rfl, by go_num, rfl, HI2⟩
        · have hlt' : decide ((k : Int) < (ns.length : Int)) = false := by simp; omega
          have HA : Hid (areS ns = true) := areS_yes (by omega) (fun i hi => HI.out i hi (by omega))
          go_wp2_with fail
          go_ret
          rw [HA.out]
          exact ⟨rfl, rfl⟩

theorem runE_code {L : List UInt8} {ns : List Int} (h : 8000 < L.length ∨ (runM ns L ([], 0, false)).2.2 = true ∨ (runM ns L ([], 0, false)).1.length ≠ 1) : runE L ns = (0, 9) := by
  unfold runE
  by_cases h0 : 8000 < L.length
  · rw [if_pos h0]
  · rw [if_neg h0, if_pos (h.resolve_left h0)]
theorem runE_arg {L : List UInt8} {ns : List Int} (h0 : L.length ≤ 8000) (h1 : (runM ns L ([], 0, false)).2.2 = false) (h2 : (runM ns L ([], 0, false)).1.length = 1) (h : ns.length < (runM ns L ([], 0, false)).2.1 ∨ areS ns = false) : runE L ns = (0, 10) := by
  unfold runE
  rw [if_neg (by omega), if_neg (by rw [h1, h2]; simp), if_pos h]
theorem runE_ok {L : List UInt8} {ns : List Int} (h0 : L.length ≤ 8000) (h1 : (runM ns L ([], 0, false)).2.2 = false) (h2 : (runM ns L ([], 0, false)).1.length = 1) (h3 : (runM ns L ([], 0, false)).2.1 ≤ ns.length) (h4 : areS ns = true) : runE L ns = ((runM ns L ([], 0, false)).1.getD 0 0, 0) := by
  unfold runE
  rw [if_neg (by omega), if_neg (by rw [h1, h2]; simp), if_neg (by rw [h4]; simp; omega)]

set_option maxHeartbeats 2000000 in
theorem Run_any (T : ByteArray) (u : Value) (ns : List Int) (w : World) (hu : IntsB w.heap.size u ns w) (hT : T.size ≤ maxLen) :
    Calls Try.prog 67 #[.string T, u] w fun e w' => e = .returned (.tuple #[.int .i64 ((runE T.data.toList ns).1 : Int), .int .i64 ((runE T.data.toList ns).2 : Int)]) ∧ Below w.heap.size w w' := by
  have hlen : T.data.toList.length = T.size := by simp
  unfold maxLen at hT
  by_cases hb : 8000 < T.size
  · have hb' : (8000 : Int) < (T.size : Int) := by omega
    have HE : Hid (runE T.data.toList ns = (0, 9)) := runE_code (Or.inl (by omega))
    go_enter Try.func67, Try.ntmps67
    go_wp2_with fail
    go_ret2
    rw [HE.out]
    exact ⟨rfl, Below.refl _ _⟩
  · have hb' : decide ((8000 : Int) < (T.size : Int)) = false := by simp; omega
    obtain ⟨ua, uc, rfl⟩ := hu.form
    go_enter Try.func67, Try.ntmps67
    go_wp2_with fail
    have M0 : MS w.heap.size ([], 0, false) (w.alloc (.cells #[.slice none 0 0, .int .i64 0, .bool false] 125)) :=
      ⟨none, 0, whole_new w _, World.ownsRow_nil _ _ _ _, by simp, by simp⟩
    have B0 : Below w.heap.size w (w.alloc (.cells #[.slice none 0 0, .int .i64 0, .bool false] 125)) := (Below.refl _ w).alloc (Nat.le_refl _) _
    refine (run_any w.heap.size T _ ns ([], 0, false) _ M0 (hu.kept B0) (by omega)).mono ?_
    rintro e w1 ⟨rfl, hm, hB⟩
    replace hB := B0.trans hB
    have hu1 := hu.kept hB
    have Hcode : Hid ((runM ns T.data.toList ([], 0, false)).2.2 = true ∨ (runM ns T.data.toList ([], 0, false)).1.length ≠ 1 → runE T.data.toList ns = (0, 9)) := fun z => runE_code (Or.inr z)
    have Harg : Hid ((runM ns T.data.toList ([], 0, false)).2.2 = false → (runM ns T.data.toList ([], 0, false)).1.length = 1 → ns.length < (runM ns T.data.toList ([], 0, false)).2.1 ∨ areS ns = false → runE T.data.toList ns = (0, 10)) := fun z1 z2 z3 => runE_arg (by omega) z1 z2 z3
    have Hok : Hid ((runM ns T.data.toList ([], 0, false)).2.2 = false → (runM ns T.data.toList ([], 0, false)).1.length = 1 → (runM ns T.data.toList ([], 0, false)).2.1 ≤ ns.length → areS ns = true → runE T.data.toList ns = ((runM ns T.data.toList ([], 0, false)).1.getD 0 0, 0)) := fun z1 z2 z3 z4 => runE_ok (by omega) z1 z2 z3 z4
    generalize runM ns T.data.toList ([], 0, false) = m at *
    obtain ⟨S, a, br⟩ := m
    dsimp only at Hcode Harg Hok
    obtain ⟨pa, pc, h1, hown, hl, hv⟩ := hm
    have q0 := h1.c0; have q1 := h1.c1; have q2 := h1.c2
    dsimp only at q0 q1 q2 hown hl
    clear h1 M0 B0
    cases br with
    | true =>
      have HE : Hid (runE T.data.toList ns = (0, 9)) := Hcode.out (Or.inl rfl)
      go_wp2_with fail
      go_ret2
      rw [HE.out]
      exact ⟨rfl, hB⟩
    | false =>
      by_cases hS : S.length = 1
      · obtain ⟨s, rfl⟩ : ∃ s, S = [s] := List.length_eq_one_iff.1 hS
        have hown1 : w1.ownsRow (w.heap.size + 1) 3 1 (.slice pa 1 pc) 1 [vI s] := hown
        obtain ⟨g, rfl⟩ : ∃ g, pa = some ⟨g, 0, none⟩ := by
          rcases hown1.2 with ⟨hq, _⟩ | ⟨g, cap, cur, hq, _⟩
          · cases hq
          · cases hq; exact ⟨g, rfl⟩
        have cs := row_cellI hown1 0 (by omega)
        simp [vI] at cs
        have hcap : 1 ≤ pc := by
          rcases hown1.2 with ⟨hq, _⟩ | ⟨g, cap, cur, hq, _, _, hh, _⟩
          · cases hq
          · cases hq; exact hh
        simp only [List.length_cons, List.length_nil, Nat.zero_add] at q0
        clear hown hown1
        by_cases ha : ns.length < a
        · have HE : Hid (runE T.data.toList ns = (0, 10)) := Harg.out rfl rfl (Or.inl ha)
          have ha' : (ns.length : Int) < (a : Int) := by omega
          go_wp2_with fail
          go_ret2
          rw [HE.out]
          exact ⟨rfl, hB⟩
        · have ha' : decide ((ns.length : Int) < (a : Int)) = false := by simp; omega
          go_wp2_with fail
          refine (areStates_any w.heap.size _ ns _ hu1).mono ?_
          rintro e w2 ⟨rfl, hw2⟩
          subst hw2
          cases hA : areS ns with
          | false =>
            have HE : Hid (runE T.data.toList ns = (0, 10)) := Harg.out (by trivial) (by simp) (Or.inr hA)
            clear hA
            go_wp2_with fail
            go_ret2
            rw [HE.out]
            exact ⟨rfl, hB⟩
          | true =>
            have HE : Hid (runE T.data.toList ns = (s, 0)) := Hok.out (by trivial) (by simp) (by omega) hA
            clear hA
            go_wp2_with fail
            go_ret2
            rw [HE.out]
            exact ⟨rfl, hB⟩
      · have HE : Hid (runE T.data.toList ns = (0, 9)) := Hcode.out (Or.inr hS)
        have hS' : ((S.length : Int) != 1) = true := by rw [bne_iff_ne]; omega
        go_wp2_with fail
        go_ret2
        rw [HE.out]
        exact ⟨rfl, hB⟩
end Go.Proofs.Ytanknpmojblmcab

/-
  Package pool: the answers that read alone; an end.
-/
set_option linter.unusedSimpArgs false
set_option linter.unusedVariables false
namespace Go.Proofs.Ytanknpmojblmcab
open Go.RowKit

variable {D : Nat → Prop} {s : Nat} {p : PS} {gv jv qv : Value} {w w' : World}

theorem SM.jform (h : SM D s p gv jv qv w) {id : Nat} (hid : id < p.js.length) : ∃ g cap, jv = .slice (some ⟨g, 0, none⟩) p.js.length cap := by
  rcases h.jr.2 with ⟨_, h1⟩ | ⟨g, cap, cur, hv, _⟩
  · omega
  · exact ⟨g, cap, hv⟩
theorem SM.jc {g n cap : Nat} (h : SM D s p gv (.slice (some ⟨g, 0, none⟩) n cap) qv w) {k : Nat} (hk : k < p.js.length) : w.cell? ⟨g, k * 6, none⟩ = some (.string (bs p.js[k].code)) ∧ w.cell? ⟨g, k * 6 + 1, none⟩ = some (.int .i64 (p.js[k].st : Int)) ∧ w.cell? ⟨g, k * 6 + 2, none⟩ = some (.int .i64 (p.js[k].nd : Int)) ∧ w.cell? ⟨g, k * 6 + 3, none⟩ = some (.int .i64 (p.js[k].tm : Int)) ∧ w.cell? ⟨g, k * 6 + 4, none⟩ = some (.int .i64 p.js[k].sa) ∧ w.cell? ⟨g, k * 6 + 5, none⟩ = some (.int .i64 p.js[k].en) := by
  rcases Ps.of h.jr with ⟨h1, _⟩ | ⟨g', cap', hv, _, _, hc⟩
  · simp at h1
  · simp only [Value.slice.injEq, Option.some.injEq, Addr.mk.injEq, and_true, true_and] at hv
    obtain ⟨rfl, _, _⟩ := hv
    have l0 := hc k hk 0 (by omega); have l1 := hc k hk 1 (by omega); have l2 := hc k hk 2 (by omega); have l3 := hc k hk 3 (by omega); have l4 := hc k hk 4 (by omega); have l5 := hc k hk 5 (by omega)
    simp [pjC] at l0 l1 l2 l3 l4 l5
    exact ⟨l0, l1, l2, l3, l4, l5⟩

set_option maxHeartbeats 1000000 in
theorem plNodes (h : SM D s p gv jv qv w) :
    Calls Try.prog 16 #[.pointer (some ⟨s, 1, none⟩)] w fun e w' => e = .returned (.int .i64 (p.nodes : Int)) ∧ w' = w := by
  have c1 := h.pl.c 1
  simp at c1
  go_enter Try.func16, Try.ntmps16
  go_wp2_with fail
  go_ret
  exact ⟨rfl, rfl⟩
set_option maxHeartbeats 1000000 in
theorem plCount (h : SM D s p gv jv qv w) :
    Calls Try.prog 17 #[.pointer (some ⟨s, 1, none⟩)] w fun e w' => e = .returned (.int .i64 (p.js.length : Int)) ∧ w' = w := by
  have c3 := h.pl.c 3
  obtain ⟨a, c, rfl⟩ := (Ps.of h.jr).form
  simp at c3
  go_enter Try.func17, Try.ntmps17
  go_wp2_with fail
  go_ret
  exact ⟨rfl, rfl⟩

set_option maxHeartbeats 1000000 in
theorem plHasId (h : SM D s p gv jv qv w) (id : Int) :
    Calls Try.prog 43 #[.pointer (some ⟨s, 1, none⟩), .int .i64 id] w fun e w' => e = .returned (.bool (decide (0 ≤ id) && decide (id < (p.js.length : Int)))) ∧ w' = w := by
  have c3 := h.pl.c 3
  obtain ⟨a, c, rfl⟩ := (Ps.of h.jr).form
  simp at c3
  by_cases h0 : 0 ≤ id
  · have h0' : decide (0 ≤ id) = true := by simpa using h0
    rw [h0']
    go_enter Try.func43, Try.ntmps43
    go_wp2_with fail
    go_ret
    exact ⟨rfl, rfl⟩
  · have h0' : decide (0 ≤ id) = false := by simpa using h0
    rw [h0']
    go_enter Try.func43, Try.ntmps43
    go_wp2_with fail
    go_ret
    exact ⟨rfl, rfl⟩

set_option maxHeartbeats 1000000 in
theorem plEnd (h : SM D s p gv jv qv w) (id st : Nat) (hid : id < p.js.length) (hl : p.js.length ≤ 24) :
    Calls Try.prog 45 #[.pointer (some ⟨s, 1, none⟩), .int .i64 (id : Int), .int .i64 (st : Int)] w fun e w' => e = .returned (.tuple #[]) ∧ SM D s { p with js := p.js.set id ((p.js[id].toSt st).toEn p.now) } gv jv qv w' ∧ Keep D w w' := by
  obtain ⟨g, cap, rfl⟩ := h.jform hid
  have HS : Hid (SM D s p gv (.slice (some ⟨g, 0, none⟩) p.js.length cap) qv w) := h
  have hgs : g ≠ s := fun e => h.jne (by simp [Value.ownBlock, e])
  have c2 := h.pl.c 2; have c3 := h.pl.c 3
  simp at c2 c3
  obtain ⟨l0, l1, l2, l3, l4, l5⟩ := h.jc hid
  have z1 := h.jr.frozenAt (id * 6 + 1)
  have z5 := h.jr.frozenAt (id * 6 + 5)
  clear h
  go_enter Try.func45, Try.ntmps45
  go_wp2_with fail
  have H1 := HS.out.setJ id 1 (by omega) (.int .i64 (st : Int)) (p.js[id].toSt st) hid rfl
  have K1 : Hid (Keep D w (w.setCell ⟨g, id * 6 + 1, none⟩ (.int .i64 (st : Int)))) := (Keep.refl D w).setCell (HS.out.dj g rfl) _
  clear HS c2 c3 l0 l1 l2 l3 l4 l5 z1 z5
  generalize w.setCell ⟨g, id * 6 + 1, none⟩ (.int .i64 (st : Int)) = w1 at *
  have HS : Hid (SM D s { p with js := p.js.set id (p.js[id].toSt st) } gv (.slice (some ⟨g, 0, none⟩) p.js.length cap) qv w1) := H1
  have c2 := H1.pl.c 2; have c3 := H1.pl.c 3
  simp at c2 c3
  have hid' : id < (p.js.set id (p.js[id].toSt st)).length := by simpa using hid
  obtain ⟨l0, l1, l2, l3, l4, l5⟩ := H1.jc hid'
  have hr := H1.jr
  simp only [List.length_set] at hr
  have z5 := hr.frozenAt (id * 6 + 5)
  clear H1 hr l0 l1 l2 l3 l4
  go_region
  have H2 := HS.out.setJ id 5 (by omega) (.int .i64 p.now) ((p.js[id].toSt st).toEn p.now) hid' (by simp [pjC, PJ.toSt, PJ.toEn])
  have K2 : Keep D w (w1.setCell ⟨g, id * 6 + 5, none⟩ (.int .i64 p.now)) := K1.out.setCell (HS.out.dj g rfl) _
  simp only [List.set_set] at H2
  go_end0
  exact ⟨rfl, H2.below (Below.refl _ _).drew, K2.trans (Keep.below (Below.refl _ _).drew H2.dom)⟩
end Go.Proofs.Ytanknpmojblmcab

/-
  What the pool does, as functions on lists; its numbers stay small.
-/
set_option linter.unusedSimpArgs false
set_option linter.unusedVariables false
namespace Go.Proofs.Ytanknpmojblmcab

theorem sum_set (f : PJ → Nat) : ∀ (js : List PJ) (i : Nat) (h : i < js.length) (x : PJ), ((js.set i x).map f).sum + f js[i] = (js.map f).sum + f x := by
  intro js
  induction js with
  | nil => intro i h; simp at h
  | cons a r ih =>
    intro i h x
    cases i with
    | zero => simp only [List.set_cons_zero, List.map_cons, List.sum_cons, List.getElem_cons_zero]; omega
    | succ i =>
      have := ih i (by simpa using h) x
      simp only [List.set_cons_succ, List.map_cons, List.sum_cons, List.getElem_cons_succ]
      omega

def wtJ (j : PJ) : Nat := if j.st = 0 then 0 else j.tm
def sumT (js : List PJ) : Nat := (js.map wtJ).sum
theorem sum_le (f : PJ → Nat) (c : Nat) : ∀ (js : List PJ), (∀ j ∈ js, f j ≤ c) → (js.map f).sum ≤ c * js.length := by
  intro js
  induction js with
  | nil => intro _; simp
  | cons a r ih =>
    intro h
    have h1 := ih (fun j hj => h j (by simp [hj]))
    have h2 := h a (by simp)
    simp [Nat.mul_add]
    omega

/-- What keeps a job's numbers small. -/
structure JOK (j : PJ) : Prop where
  st : j.st ≤ 6
  nd : j.nd ≤ 8
  tm : j.tm ≤ 12
  lo : -1 ≤ j.sa
  cd : j.code.length ≤ 8000
/-- What keeps a system's numbers small. -/
structure NOK (p : PS) : Prop where
  js : ∀ j ∈ p.js, JOK j
  ln : p.js.length ≤ 24
  nd : p.nodes ≤ 8
  lo : 0 ≤ p.now
  hi : p.now ≤ 5000
  sa : ∀ j ∈ p.js, j.sa ≤ p.now + (sumT p.js : Int)
  ov : ∀ j ∈ p.js, hasS j = true → overJ j ≤ p.now + (sumT p.js : Int)

theorem NOK.sum {p : PS} (h : NOK p) : sumT p.js ≤ 288 := by
  have h1 := sum_le wtJ 12 p.js (fun j hj => by have := (h.js j hj).tm; unfold wtJ; split <;> omega)
  have h2 := h.ln
  unfold sumT
  omega
theorem NOK.pj {p : PS} (h : NOK p) : ∀ j ∈ p.js, PjOK j := by
  intro j hj
  have h1 := h.js j hj
  have h2 := h.sa j hj
  have h3 := h.sum
  have h4 := h.hi
  exact ⟨h1.st, h1.nd, h1.tm, h1.lo, by omega⟩

theorem NOK.set {p : PS} (h : NOK p) (i : Nat) (hi : i < p.js.length) (x : PJ) (h1 : x.st ≤ 6) (h2 : x.nd = p.js[i].nd) (h3 : x.tm = p.js[i].tm) (h4 : x.code = p.js[i].code) (h5 : -1 ≤ x.sa)
    (h6 : x.sa ≤ p.now + (sumT p.js : Int)) (h7 : hasS x = true → overJ x ≤ p.now + (sumT p.js : Int) + (if p.js[i].st = 0 then (x.tm : Int) else 0)) (h8 : x.st = 0 → p.js[i].st = 0) : NOK { p with js := p.js.set i x } := by
  have hm : p.js[i] ∈ p.js := List.getElem_mem hi
  have ho := h.js _ hm
  have hs := sum_set wtJ p.js i hi x
  have hle : sumT p.js ≤ sumT (p.js.set i x) ∧ (x.st ≠ 0 → sumT p.js + (if p.js[i].st = 0 then x.tm else 0) ≤ sumT (p.js.set i x)) := by
    have e1 : wtJ p.js[i] = if p.js[i].st = 0 then 0 else p.js[i].tm := rfl
    have e2 : wtJ x = if x.st = 0 then 0 else x.tm := rfl
    change sumT (p.js.set i x) + wtJ p.js[i] = sumT p.js + wtJ x at hs
    rw [e1, e2, ← h3] at hs
    by_cases a : p.js[i].st = 0
    · by_cases b : x.st = 0
      · simp only [a, b, if_true] at hs ⊢
        exact ⟨by omega, fun q => absurd rfl q⟩
      · simp only [a, b, if_true, if_false] at hs ⊢
        exact ⟨by omega, fun q => by omega⟩
    · have b : ¬ x.st = 0 := fun e => a (h8 e)
      simp only [a, b, if_false] at hs ⊢
      exact ⟨by omega, fun q => by omega⟩
  refine ⟨?_, by simpa using h.ln, h.nd, h.lo, h.hi, ?_, ?_⟩
  · intro j hj
    rcases List.mem_or_eq_of_mem_set hj with hj | rfl
    · exact h.js j hj
    · exact ⟨h1, by rw [h2]; exact ho.nd, by rw [h3]; exact ho.tm, h5, by rw [h4]; exact ho.cd⟩
  · intro j hj
    show j.sa ≤ p.now + (sumT (p.js.set i x) : Int)
    rcases List.mem_or_eq_of_mem_set hj with hj | rfl
    · have := h.sa j hj; omega
    · omega
  · intro j hj hh
    show overJ j ≤ p.now + (sumT (p.js.set i x) : Int)
    rcases List.mem_or_eq_of_mem_set hj with hj | rfl
    · have := h.ov j hj hh; omega
    · have hx : j.st ≠ 0 := by
        intro e
        unfold hasS at hh
        rw [e] at hh
        simp at hh
      have q := hle.2 hx
      have := h7 hh
      split at this <;> simp_all <;> omega

theorem earlN_bd (js : List PJ) (nodes id : Nat) (last : Int) : ∀ (f : Nat) (t : Int), t ≤ last → t ≤ earlN js nodes id last f t ∧ earlN js nodes id last f t ≤ last := by
  intro f
  induction f with
  | zero => intro t ht; unfold earlN; omega
  | succ f ih =>
    intro t ht
    unfold earlN
    split
    · rename_i hc
      have := ih (t + 1) (by omega)
      omega
    · omega
theorem allN_bd (now : Int) (js : List PJ) (B : Int) (h0 : now ≤ B) (h : ∀ j ∈ js, hasS j = true → overJ j ≤ B) : ∀ n, now ≤ allN now js n ∧ allN now js n ≤ B := by
  intro n
  induction n with
  | zero => unfold allN; omega
  | succ n ih =>
    unfold allN
    split
    · rename_i hc
      refine ⟨by omega, ?_⟩
      by_cases hn : n < js.length
      · have e : js.getD n pj0 = js[n] := by simp [hn]
        rw [e] at hc ⊢
        exact h _ (List.getElem_mem hn) hc.1
      · have e : js.getD n pj0 = pj0 := by simp [hn]
        rw [e] at hc
        simp [pj0, hasS] at hc
    · exact ih
theorem NOK.early {p : PS} (h : NOK p) (id : Nat) : p.now ≤ earlF p.js p.nodes id p.now ∧ earlF p.js p.nodes id p.now ≤ p.now + (sumT p.js : Int) := by
  have h1 := allN_bd p.now p.js (p.now + (sumT p.js : Int)) (by omega) h.ov p.js.length
  have h2 := earlN_bd p.js p.nodes id (allF p.now p.js) (allF p.now p.js - p.now).toNat p.now h1.1
  unfold earlF
  unfold allF at *
  omega

/-- The value of a job by the states of all. -/
def stI (js : List PJ) : List Int := js.map fun j => (j.st : Int)
def valJ (js : List PJ) (id : Nat) : Nat := (runE (js.getD id pj0).code (stI js)).1
def heldB (js : List PJ) (id v : Nat) : Bool := decide ((js.getD id pj0).st = 0) && decide (valJ js id = v)

theorem getD_get {js : List PJ} {i : Nat} (h : i < js.length) : js.getD i pj0 = js[i] := by simp [h]

/-- giveUp. -/
def giveN (now : Int) (js : List PJ) : Nat → List PJ × Bool
  | 0 => (js, false)
  | n + 1 => if heldB (giveN now js n).1 n 2 = true then ((giveN now js n).1.set n ((((giveN now js n).1.getD n pj0).toSt 6).toEn now), true) else giveN now js n
def giveF (now : Int) : Nat → List PJ → List PJ
  | 0, js => js
  | k + 1, js => if (giveN now js js.length).2 = true then giveF now k (giveN now js js.length).1 else (giveN now js js.length).1
def cH (j : PJ) : Nat := if j.st = 0 then 1 else 0
def cntH (js : List PJ) : Nat := (js.map cH).sum
def PS.withJ (p : PS) (js : List PJ) : PS := { p with js := js }
def giveUpF (p : PS) : PS := p.withJ (giveF p.now (cntH p.js + 1) p.js)

theorem giveN_len (now : Int) (js : List PJ) : ∀ n, (giveN now js n).1.length = js.length := by
  intro n
  induction n with
  | zero => rfl
  | succ n ih => unfold giveN; split <;> simp [ih]
theorem giveN_ok {p : PS} (h : NOK p) : ∀ n, n ≤ p.js.length → NOK (p.withJ (giveN p.now p.js n).1) := by
  intro n
  induction n with
  | zero => intro _; exact h
  | succ n ih =>
    intro hn
    have h1 := ih (by omega)
    have hl := giveN_len p.now p.js n
    unfold giveN
    split
    · rename_i hc
      have hi : n < (giveN p.now p.js n).1.length := by omega
      have hm := h1.sa _ (List.getElem_mem (show n < (p.withJ (giveN p.now p.js n).1).js.length from hi))
      have hj := h1.js _ (List.getElem_mem (show n < (p.withJ (giveN p.now p.js n).1).js.length from hi))
      rw [getD_get hi]
      exact h1.set n hi _ (by show 6 ≤ 6; omega) rfl rfl rfl hj.lo hm (by intro q; simp [hasS, PJ.toEn, PJ.toSt] at q) (by intro q; simp [PJ.toEn, PJ.toSt] at q)
    · exact h1
theorem giveN_cnt (now : Int) (js : List PJ) : ∀ n, n ≤ js.length → cntH (giveN now js n).1 ≤ cntH js ∧ ((giveN now js n).2 = true → cntH (giveN now js n).1 < cntH js) := by
  intro n
  induction n with
  | zero => intro _; unfold giveN; simp
  | succ n ih =>
    intro hn
    have h1 := ih (by omega)
    have hl := giveN_len now js n
    unfold giveN
    split
    · rename_i hc
      have hi : n < (giveN now js n).1.length := by omega
      rw [getD_get hi]
      have hs := sum_set cH (giveN now js n).1 n hi (((giveN now js n).1[n].toSt 6).toEn now)
      have h0 : (giveN now js n).1[n].st = 0 := by
        unfold heldB at hc
        rw [getD_get hi] at hc
        simp at hc
        exact hc.1
      have a1 : cH (giveN now js n).1[n] = 1 := by unfold cH; rw [if_pos h0]
      have a2 : cH (((giveN now js n).1[n].toSt 6).toEn now) = 0 := rfl
      change cntH ((giveN now js n).1.set n (((giveN now js n).1[n].toSt 6).toEn now)) + _ = cntH (giveN now js n).1 + _ at hs
      rw [a1, a2] at hs
      exact ⟨by dsimp only; omega, fun _ => by dsimp only; omega⟩
    · exact h1

/-- moveEach, moveUp. -/
def moveN (nodes : Nat) (now : Int) (qs : List Nat) (js : List PJ) : Nat → List PJ × Bool
  | 0 => (js, false)
  | n + 1 => if earlF (moveN nodes now qs js n).1 nodes (qs.getD n 0) now < ((moveN nodes now qs js n).1.getD (qs.getD n 0) pj0).sa then ((moveN nodes now qs js n).1.set (qs.getD n 0) (((moveN nodes now qs js n).1.getD (qs.getD n 0) pj0).toSa (earlF (moveN nodes now qs js n).1 nodes (qs.getD n 0) now)), true) else moveN nodes now qs js n
def moveF (nodes : Nat) (now : Int) (qs : List Nat) : Nat → List PJ → List PJ
  | 0, js => js
  | k + 1, js => if (moveN nodes now qs js qs.length).2 = true then moveF nodes now qs k (moveN nodes now qs js qs.length).1 else (moveN nodes now qs js qs.length).1
def sJ (j : PJ) : Nat := (j.sa + 1).toNat
def sumS (js : List PJ) : Nat := (js.map sJ).sum
def moveUpF (p : PS) : PS := p.withJ (moveF p.nodes p.now p.qs (sumS p.js + 1) p.js)

theorem moveN_len (nodes : Nat) (now : Int) (qs : List Nat) (js : List PJ) : ∀ n, (moveN nodes now qs js n).1.length = js.length := by
  intro n
  induction n with
  | zero => rfl
  | succ n ih => unfold moveN; split <;> simp [ih]
theorem moveN_ok {p : PS} (h : NOK p) (hqs : ∀ i ∈ p.qs, i < p.js.length) : ∀ n, n ≤ p.qs.length → NOK (p.withJ (moveN p.nodes p.now p.qs p.js n).1) := by
  intro n
  induction n with
  | zero => intro _; exact h
  | succ n ih =>
    intro hn
    have h1 := ih (by omega)
    have hl := moveN_len p.nodes p.now p.qs p.js n
    unfold moveN
    split
    · rename_i hc
      have hq : p.qs.getD n 0 < p.js.length := by
        have e : p.qs.getD n 0 = p.qs[n] := by simp [show n < p.qs.length by omega]
        rw [e]; exact hqs _ (List.getElem_mem _)
      generalize p.qs.getD n 0 = id at *
      have hi : id < (moveN p.nodes p.now p.qs p.js n).1.length := by omega
      have hm := h1.sa _ (List.getElem_mem (show id < (p.withJ (moveN p.nodes p.now p.qs p.js n).1).js.length from hi))
      have hj := h1.js _ (List.getElem_mem (show id < (p.withJ (moveN p.nodes p.now p.qs p.js n).1).js.length from hi))
      have hov := h1.ov _ (List.getElem_mem (show id < (p.withJ (moveN p.nodes p.now p.qs p.js n).1).js.length from hi))
      have he := (h1.early id).1
      have hlo := h.lo
      rw [getD_get hi] at hc ⊢
      generalize hX : (moveN p.nodes p.now p.qs p.js n).1 = X at *
      change p.now ≤ earlF X p.nodes id p.now at he
      change X[id].sa ≤ p.now + (sumT X : Int) at hm
      change hasS X[id] = true → overJ X[id] ≤ p.now + (sumT X : Int) at hov
      change JOK X[id] at hj
      refine h1.set id hi _ hj.st rfl rfl rfl ?_ ?_ ?_ (fun q => q)
      · show -1 ≤ earlF X p.nodes id p.now
        omega
      · show earlF X p.nodes id p.now ≤ p.now + (sumT X : Int)
        omega
      · intro q
        have := hov q
        show earlF X p.nodes id p.now + (X[id].tm : Int) ≤ p.now + (sumT X : Int) + _
        unfold overJ at this
        split <;> omega
    · exact h1
theorem moveN_sum {p : PS} (h : NOK p) (hqs : ∀ i ∈ p.qs, i < p.js.length) : ∀ n, n ≤ p.qs.length → sumS (moveN p.nodes p.now p.qs p.js n).1 ≤ sumS p.js ∧ ((moveN p.nodes p.now p.qs p.js n).2 = true → sumS (moveN p.nodes p.now p.qs p.js n).1 < sumS p.js) := by
  intro n
  induction n with
  | zero => intro _; unfold moveN; simp
  | succ n ih =>
    intro hn
    have h1 := ih (by omega)
    have h2 := moveN_ok h hqs n (by omega)
    have hl := moveN_len p.nodes p.now p.qs p.js n
    unfold moveN
    split
    · rename_i hc
      have hq : p.qs.getD n 0 < p.js.length := by
        have e : p.qs.getD n 0 = p.qs[n] := by simp [show n < p.qs.length by omega]
        rw [e]; exact hqs _ (List.getElem_mem _)
      generalize p.qs.getD n 0 = id at *
      have hi : id < (moveN p.nodes p.now p.qs p.js n).1.length := by omega
      have he := (h2.early id).1
      have hlo := h.lo
      rw [getD_get hi] at hc ⊢
      generalize hX : (moveN p.nodes p.now p.qs p.js n).1 = X at *
      change p.now ≤ earlF X p.nodes id p.now at he
      have hs := sum_set sJ X id hi (X[id].toSa (earlF X p.nodes id p.now))
      have a1 : sJ X[id] = (X[id].sa + 1).toNat := rfl
      have a2 : sJ (X[id].toSa (earlF X p.nodes id p.now)) = (earlF X p.nodes id p.now + 1).toNat := rfl
      change sumS (X.set id (X[id].toSa (earlF X p.nodes id p.now))) + _ = sumS X + _ at hs
      rw [a1, a2] at hs
      exact ⟨by dsimp only; omega, fun _ => by dsimp only; omega⟩
    · exact h1

def cQ (j : PJ) : Nat := if j.st = 1 then 1 else 0
def cntQ (js : List PJ) : Nat := (js.map cQ).sum
/-- The queue has the queued jobs, each once. -/
structure QOK (js : List PJ) (qs : List Nat) : Prop where
  lt : ∀ i ∈ qs, i < js.length
  q1 : ∀ i ∈ qs, (js.getD i pj0).st = 1
  nd : qs.Nodup
  al : ∀ i, i < js.length → (js.getD i pj0).st = 1 → i ∈ qs
  cn : qs.length ≤ cntQ js
theorem getD_set {js : List PJ} {i k : Nat} {x : PJ} (hi : i < js.length) : (js.set i x).getD k pj0 = if k = i then x else js.getD k pj0 := by
  by_cases hk : k = i
  · subst hk; simp [hi]
  · rw [if_neg hk]
    simp [List.getElem?_set, show ¬ i = k from fun e => hk e.symm]
theorem QOK.ln {js : List PJ} {qs : List Nat} (h : QOK js qs) (hl : js.length ≤ 24) : qs.length ≤ 24 := by
  have h1 := sum_le cQ 1 js (fun j _ => by unfold cQ; split <;> omega)
  have := h.cn
  unfold cntQ at this
  omega
/-- A job that is not queued and is not to be. -/
theorem QOK.set {js : List PJ} {qs : List Nat} (h : QOK js qs) (i : Nat) (hi : i < js.length) (x : PJ) (hx : x.st = 1 ↔ js[i].st = 1) : QOK (js.set i x) qs := by
  refine ⟨by simpa using h.lt, ?_, h.nd, ?_, ?_⟩
  · intro k hk
    rw [getD_set hi]
    split
    · rename_i e; subst e
      have := h.q1 k hk
      rw [getD_get hi] at this
      exact hx.mpr this
    · exact h.q1 k hk
  · intro k hk hs
    rw [getD_set hi] at hs
    split at hs
    · rename_i e; subst e
      exact h.al k (by simpa using hk) (by rw [getD_get hi]; exact hx.mp hs)
    · exact h.al k (by simpa using hk) hs
  · have hs := sum_set cQ js i hi x
    change cntQ (js.set i x) + _ = cntQ js + _ at hs
    have hc := h.cn
    have e : cQ js[i] = cQ x := by
      unfold cQ
      by_cases q : x.st = 1
      · rw [if_pos q, if_pos (hx.mp q)]
      · rw [if_neg q, if_neg (fun e => q (hx.mpr e))]
    omega
/-- A job is queued. -/
theorem QOK.push {js : List PJ} {qs : List Nat} (h : QOK js qs) (i : Nat) (hi : i < js.length) (x : PJ) (hx : x.st = 1) (ho : js[i].st ≠ 1) : QOK (js.set i x) (qs ++ [i]) := by
  have hni : i ∉ qs := fun e => ho (by have := h.q1 i e; rw [getD_get hi] at this; exact this)
  refine ⟨?_, ?_, ?_, ?_, ?_⟩
  · intro k hk
    simp only [List.mem_append, List.mem_singleton] at hk
    rcases hk with hk | rfl
    · simpa using h.lt k hk
    · simpa using hi
  · intro k hk
    rw [getD_set hi]
    split
    · exact hx
    · simp only [List.mem_append, List.mem_singleton] at hk
      rcases hk with hk | rfl
      · exact h.q1 k hk
      · exact absurd rfl (by assumption)
  · rw [List.nodup_append]
    refine ⟨h.nd, by simp, ?_⟩
    intro a ha b hb
    simp at hb
    subst hb
    exact fun e => hni (e ▸ ha)
  · intro k hk hs
    rw [getD_set hi] at hs
    split at hs
    · rename_i e; subst e; simp
    · have := h.al k (by simpa using hk) hs
      simp [this]
  · have hs := sum_set cQ js i hi x
    change cntQ (js.set i x) + _ = cntQ js + _ at hs
    have hc := h.cn
    have e1 : cQ js[i] = 0 := by unfold cQ; rw [if_neg ho]
    have e2 : cQ x = 1 := by unfold cQ; rw [if_pos hx]
    rw [List.length_append]
    simp only [List.length_singleton]
    omega
/-- A job leaves the queue. -/
theorem QOK.pop {js : List PJ} {A B : List Nat} {i : Nat} (h : QOK js (A ++ i :: B)) (hi : i < js.length) (x : PJ) (hx : x.st ≠ 1) : QOK (js.set i x) (A ++ B) := by
  have hnd := h.nd
  have ho : js[i].st = 1 := by have := h.q1 i (by simp); rw [getD_get hi] at this; exact this
  rw [List.nodup_append] at hnd
  obtain ⟨n1, n2, n3⟩ := hnd
  rw [List.nodup_cons] at n2
  have hni : i ∉ A ++ B := by
    simp only [List.mem_append]
    rintro (e | e)
    · exact n3 i e i (by simp) rfl
    · exact n2.1 e
  have sub : ∀ k, k ∈ A ++ B → k ∈ A ++ i :: B := by
    intro k hk
    simp only [List.mem_append, List.mem_cons] at hk ⊢
    rcases hk with e | e
    · exact Or.inl e
    · exact Or.inr (Or.inr e)
  refine ⟨?_, ?_, ?_, ?_, ?_⟩
  · intro k hk; simpa using h.lt k (sub k hk)
  · intro k hk
    rw [getD_set hi, if_neg (fun e => hni (by rw [← e]; exact hk))]
    exact h.q1 k (sub k hk)
  · rw [List.nodup_append]
    exact ⟨n1, n2.2, fun a ha b hb => n3 a ha b (by simp [hb])⟩
  · intro k hk hs
    rw [getD_set hi] at hs
    split at hs
    · exact absurd hs hx
    · rename_i hne
      have := h.al k (by simpa using hk) hs
      simp only [List.mem_append, List.mem_cons] at this ⊢
      rcases this with e | e | e
      · exact Or.inl e
      · exact absurd e hne
      · exact Or.inr e
  · have hs := sum_set cQ js i hi x
    change cntQ (js.set i x) + _ = cntQ js + _ at hs
    have hc := h.cn
    have e1 : cQ js[i] = 1 := by unfold cQ; rw [if_pos ho]
    have e2 : cQ x = 0 := by unfold cQ; rw [if_neg hx]
    rw [List.length_append] at hc ⊢
    simp only [List.length_cons] at hc
    omega

theorem giveN_qok {js : List PJ} {qs : List Nat} (now : Int) (h : QOK js qs) : ∀ n, n ≤ js.length → QOK (giveN now js n).1 qs := by
  intro n
  induction n with
  | zero => intro _; exact h
  | succ n ih =>
    intro hn
    have h1 := ih (by omega)
    have hl := giveN_len now js n
    unfold giveN
    split
    · rename_i hc
      have hi : n < (giveN now js n).1.length := by omega
      have h0 : (giveN now js n).1[n].st = 0 := by
        unfold heldB at hc
        rw [getD_get hi] at hc
        simp at hc
        exact hc.1
      rw [getD_get hi]
      exact h1.set n hi _ (by rw [h0]; simp [PJ.toEn, PJ.toSt])
    · exact h1
theorem moveN_qok {js : List PJ} {qs : List Nat} (nodes : Nat) (now : Int) (h : QOK js qs) : ∀ n, n ≤ qs.length → QOK (moveN nodes now qs js n).1 qs := by
  intro n
  induction n with
  | zero => intro _; exact h
  | succ n ih =>
    intro hn
    have h1 := ih (by omega)
    have hl := moveN_len nodes now qs js n
    unfold moveN
    split
    · have hq : qs.getD n 0 < (moveN nodes now qs js n).1.length := by
        have e : qs.getD n 0 = qs[n] := by simp [show n < qs.length by omega]
        rw [e, hl]; exact h.lt _ (List.getElem_mem _)
      rw [getD_get hq]
      exact h1.set _ hq _ Iff.rfl
    · exact h1

/-- queueUp. -/
def queN (p : PS) : Nat → List PJ × List Nat
  | 0 => (p.js, p.qs)
  | n + 1 => if heldB (queN p n).1 n 1 = true then ((queN p n).1.set n ((((queN p n).1.getD n pj0).toSt 1).toSa (earlF (queN p n).1 p.nodes n p.now)), (queN p n).2 ++ [n]) else queN p n
def queueUpF (p : PS) : PS := { p with js := (queN p p.js.length).1, qs := (queN p p.js.length).2 }
theorem queN_len (p : PS) : ∀ n, (queN p n).1.length = p.js.length ∧ (queN p n).2.length ≤ p.qs.length + n := by
  intro n
  induction n with
  | zero => exact ⟨rfl, Nat.le_refl _⟩
  | succ n ih =>
    unfold queN
    split
    · simp [ih.1]; omega
    · exact ⟨ih.1, by omega⟩

theorem queN_ok {p : PS} (h : NOK p) (hQ : QOK p.js p.qs) : ∀ n, n ≤ p.js.length → NOK (p.withJ (queN p n).1) ∧ QOK (queN p n).1 (queN p n).2 := by
  intro n
  induction n with
  | zero => intro _; exact ⟨h, hQ⟩
  | succ n ih =>
    intro hn
    obtain ⟨h1, h2⟩ := ih (by omega)
    have hl := (queN_len p n).1
    unfold queN
    split
    · rename_i hc
      have hi : n < (queN p n).1.length := by omega
      have h0 : (queN p n).1[n].st = 0 := by
        unfold heldB at hc
        rw [getD_get hi] at hc
        simp at hc
        exact hc.1
      have hj := h1.js _ (List.getElem_mem (show n < (p.withJ (queN p n).1).js.length from hi))
      have he := h1.early n
      have hlo := h.lo
      rw [getD_get hi]
      change p.now ≤ earlF (queN p n).1 p.nodes n p.now ∧ earlF (queN p n).1 p.nodes n p.now ≤ p.now + (sumT (queN p n).1 : Int) at he
      refine ⟨h1.set n hi _ (by show 1 ≤ 6; omega) rfl rfl rfl ?_ he.2 ?_ (by intro q; simp [PJ.toSt, PJ.toSa] at q), h2.push n hi _ rfl (by omega)⟩
      · show -1 ≤ earlF (queN p n).1 p.nodes n p.now
        omega
      · intro q
        show earlF (queN p n).1 p.nodes n p.now + ((queN p n).1[n].tm : Int) ≤ p.now + (sumT (queN p n).1 : Int) + (if (queN p n).1[n].st = 0 then ((queN p n).1[n].tm : Int) else 0)
        rw [if_pos h0]
        omega
    · exact ⟨h1, h2⟩

/-- begin. -/
def begN (now : Int) (qs : List Nat) (js : List PJ) : Nat → List PJ × List Nat
  | 0 => (js, [])
  | n + 1 => if ((begN now qs js n).1.getD (qs.getD n 0) pj0).sa = now then ((begN now qs js n).1.set (qs.getD n 0) (((begN now qs js n).1.getD (qs.getD n 0) pj0).toSt 2), (begN now qs js n).2) else ((begN now qs js n).1, (begN now qs js n).2 ++ [qs.getD n 0])
def beginF (p : PS) : PS := { p with js := (begN p.now p.qs p.js p.qs.length).1, qs := (begN p.now p.qs p.js p.qs.length).2 }
theorem begN_len (now : Int) (qs : List Nat) (js : List PJ) : ∀ n, (begN now qs js n).1.length = js.length ∧ (begN now qs js n).2.length ≤ n := by
  intro n
  induction n with
  | zero => exact ⟨rfl, Nat.le_refl _⟩
  | succ n ih =>
    unfold begN
    split
    · simp [ih.1]; omega
    · simp [ih.1]; omega

theorem begN_ok {p : PS} (h : NOK p) (hQ : QOK p.js p.qs) : ∀ n, n ≤ p.qs.length → NOK (p.withJ (begN p.now p.qs p.js n).1) ∧ QOK (begN p.now p.qs p.js n).1 ((begN p.now p.qs p.js n).2 ++ p.qs.drop n) := by
  intro n
  induction n with
  | zero => intro _; exact ⟨h, by unfold begN; simpa using hQ⟩
  | succ n ih =>
    intro hn
    obtain ⟨h1, h2⟩ := ih (by omega)
    have hl := (begN_len p.now p.qs p.js n).1
    have hd : p.qs.drop n = p.qs.getD n 0 :: p.qs.drop (n + 1) := by
      rw [List.drop_eq_getElem_cons (by omega)]
      simp [show n < p.qs.length by omega]
    rw [hd] at h2
    have hi := h2.lt (p.qs.getD n 0) (by simp)
    have h0 := h2.q1 (p.qs.getD n 0) (by simp)
    unfold begN
    split
    · generalize p.qs.getD n 0 = id at *
      have hj := h1.js _ (List.getElem_mem (show id < (p.withJ (begN p.now p.qs p.js n).1).js.length from hi))
      have hm := h1.sa _ (List.getElem_mem (show id < (p.withJ (begN p.now p.qs p.js n).1).js.length from hi))
      have hov := h1.ov _ (List.getElem_mem (show id < (p.withJ (begN p.now p.qs p.js n).1).js.length from hi))
      rw [getD_get hi] at h0 ⊢
      refine ⟨h1.set id hi _ (by show 2 ≤ 6; omega) rfl rfl rfl hj.lo hm ?_ (by intro q; simp [PJ.toSt] at q), h2.pop hi _ (by simp [PJ.toSt])⟩
      intro q
      have := hov (by show hasS (begN p.now p.qs p.js n).1[id] = true; unfold hasS; rw [h0]; rfl)
      change overJ (begN p.now p.qs p.js n).1[id] ≤ p.now + (sumT (begN p.now p.qs p.js n).1 : Int) at this
      show overJ (begN p.now p.qs p.js n).1[id] ≤ p.now + (sumT (begN p.now p.qs p.js n).1 : Int) + _
      split <;> omega
    · exact ⟨h1, by simpa using h2⟩

def settleF (p : PS) : PS := beginF (queueUpF (moveUpF (giveUpF p)))

/-- Pass. -/
def passN (now : Int) (js : List PJ) : Nat → List PJ
  | 0 => js
  | n + 1 => if ((passN now js n).getD n pj0).st = 2 ∧ overJ ((passN now js n).getD n pj0) = now then (passN now js n).set n ((((passN now js n).getD n pj0).toSt 4).toEn now) else passN now js n
def passF (p : PS) : PS := settleF { p with now := p.now + 1, js := passN (p.now + 1) p.js p.js.length }
end Go.Proofs.Ytanknpmojblmcab
