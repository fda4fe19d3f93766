/-
  The document's answer: Heads.
-/
import Derived.Test.YtanknpmojblmcaaRefH
import Derived.Test.YtanknpmojblmcaaLim
set_option linter.unusedSimpArgs false
set_option linter.unusedVariables false
namespace Go.Proofs.Ytanknpmojblmcaa
open Go.RowKit

def rhdsL (L : List UInt8) (f : Nat) : Nat → Nat → Nat → List RV → List RV
  | 0, _, _, hs => hs
  | n + 1, i, a, hs =>
    if i < L.length ∧ byt L i ≠ 10 then rhdsL L f n (i + 1) a hs
    else rhdsL L f n (i + 1) (i + 1) (if a + 2 ≤ i ∧ seesB L a = true then hs ++ [rhd L f a i] else hs)
/-- The heads, as the document's answer has them. -/
def rhds (L : List UInt8) (f : Nat) : List RV := rhdsL L f (L.length + 1) 0 0 []
/-- A line of a text that is a head. -/
structure HLine (L : List UInt8) (a i : Nat) : Prop where
  le : a ≤ i
  en : i ≤ L.length
  start : a = 0 ∨ byt L (a - 1) = 10
  inner : ∀ j, a ≤ j → j < i → byt L j ≠ 10
  stop : i = L.length ∨ byt L i = 10
  two : a + 2 ≤ i
  sees : seesB L a = true
def HeadsOK (L : List UInt8) (f : Nat) : Prop := ∀ a i, HLine L a i → a + 3 ≤ i ∧ ∀ p, behO L a i kAfter = some p → PlainOK f (cut L p i)

theorem rhdsL_in {L : List UInt8} {f n i a : Nat} {hs : List RV} (h : i < L.length ∧ byt L i ≠ 10) : rhdsL L f (n + 1) i a hs = rhdsL L f n (i + 1) a hs := by rw [rhdsL, if_pos h]
theorem rhdsL_no {L : List UInt8} {f n i a : Nat} {hs : List RV} (h : ¬ (i < L.length ∧ byt L i ≠ 10)) (h2 : ¬ (a + 2 ≤ i ∧ seesB L a = true)) : rhdsL L f (n + 1) i a hs = rhdsL L f n (i + 1) (i + 1) hs := by rw [rhdsL, if_neg h, if_neg h2]
theorem rhdsL_yes {L : List UInt8} {f n i a : Nat} {hs : List RV} (h : ¬ (i < L.length ∧ byt L i ≠ 10)) (h2 : a + 2 ≤ i ∧ seesB L a = true) : rhdsL L f (n + 1) i a hs = rhdsL L f n (i + 1) (i + 1) (hs ++ [rhd L f a i]) := by rw [rhdsL, if_neg h, if_pos h2]

def flatR (hs : List RV) : List Value := (hs.map fun h => (rvC h).toList).flatten
theorem flatR_snoc (hs : List RV) (h : RV) : flatR (hs ++ [h]) = flatR hs ++ (rvC h).toList := by simp [flatR]
theorem infoRV : (Try.prog.info? 39).map (fun i => (i.zero, i.size, i.bytes)) = some (some (.agg (rvC rv0)), 13, 128) := by kernel_rfl

set_option maxRecDepth 100000 in
set_option maxHeartbeats 8000000 in
theorem Heads_any (T : ByteArray) (f : Nat) (w : World) (hT : T.size ≤ 600) (hok : HeadsOK T.data.toList f) :
    Calls Try.prog 16 #[.string T] w fun e w' => ∃ v, e = .returned v ∧ w'.ownsRow w.heap.size 39 13 v (rhds T.data.toList f).length (flatR (rhds T.data.toList f)) ∧ Below w.heap.size w w' := by
  obtain ⟨i0, hi, hz0, hz1, hz2⟩ := info_parts infoRV
  have hlen : T.data.toList.length = T.size := by simp
  have HN : Hid (rhds T.data.toList f = rhdsL T.data.toList f (T.size + 1) 0 0 []) := by show _ = _; unfold rhds; rw [hlen]
  have HLEN : Hid (T.data.toList.length = T.size) := hlen
  have HOK : Hid (HeadsOK T.data.toList f) := hok
  clear hlen hok
  go_enter Try.func16, Try.ntmps16
  go_wp2_with fail
  go_loopg [3, 4, 5] (T.size + 1) (fun g v y x wr => ∃ (i a : Nat) (hs : List RV), g = T.size + 1 - i ∧ i ≤ T.size + 1 ∧ a ≤ i ∧ hs.length ≤ i ∧ x = .int .i64 (i : Int) ∧ y = .int .i64 (a : Int) ∧ wr.ownsRow w.heap.size 39 13 v hs.length (flatR hs) ∧ Below w.heap.size w wr ∧ Hid (a = 0 ∨ byt T.data.toList (a - 1) = 10 ∨ T.size < a) ∧ Hid (∀ j, a ≤ j → j < i → byt T.data.toList j ≠ 10) ∧ Hid (rhdsL T.data.toList f (T.size + 1) 0 0 [] = rhdsL T.data.toList f (T.size + 1 - i) i a hs))
  case atStart => exact ⟨0, 0, [], rfl, by omega, by omega, by simp, rfl, rfl, World.ownsRow_nil _ _ _ _, Below.refl _ _, Or.inl rfl, fun j h1 h2 => by omega, rfl⟩
  case round =>
    obtain ⟨i, a, hs, rfl, hi1, hai, hhs, rfl, rfl, hown, hB, HS, HIN, HL⟩ := hrel
    have q1 := hB.size
    by_cases hle : i ≤ T.size
    · have hle' : (i : Int) ≤ (T.size : Int) := by omega
      have HE : Hid (T.size + 1 - i = (T.size + 1 - (i + 1)) + 1) := by show _ = _; omega
      by_cases hlt : i < T.size
      · have hlt' : (i : Int) < (T.size : Int) := by omega
        have hbb := byt_arr T i hlt
        by_cases hnl : byt T.data.toList i = 10
        · have f1 : ((T[i].toNat : Int) != 10) = false := by rw [bne_eq_false_iff_eq]; omega
          have HST : Hid (i = T.data.toList.length ∨ byt T.data.toList i = 10) := Or.inr hnl
          have HEND : Hid (¬ (i < T.data.toList.length ∧ byt T.data.toList i ≠ 10)) := by intro q; exact q.2 hnl
          have HNX : Hid (i + 1 = 0 ∨ byt T.data.toList (i + 1 - 1) = 10 ∨ T.size < i + 1) := Or.inr (Or.inl hnl)
          clear hbb hnl
          by_cases h2 : a + 2 ≤ i
          · have h2' : (2 : Int) ≤ (i : Int) - (a : Int) := by omega
            have b0 : a < T.size := by omega
            have b1 : a + 1 < T.size := by omega
            have b0' : (a : Int) < (T.size : Int) := by omega
            have b1' : (a : Int) + 1 < (T.size : Int) := by omega
            have hba := byt_arr T a b0
            have hbb2 := byt_arr T (a + 1) b1
            by_cases h35 : byt T.data.toList a = 35
            · have f2 : ((T[a].toNat : Int) == 35) = true := by rw [beq_iff_eq]; omega
              by_cases h74 : byt T.data.toList (a + 1) = 74
              · have f3 : ((T[a + 1].toNat : Int) == 74) = true := by rw [beq_iff_eq]; omega
                have hse : seesB T.data.toList a = true := by simp [seesB, h35, h74]
                have hstart : a = 0 ∨ byt T.data.toList (a - 1) = 10 := by rcases HS.out with q | q | q <;> first | exact Or.inl q | exact Or.inr q | omega
                have hline : HLine T.data.toList a i := ⟨hai, by rw [HLEN.out]; exact hle, hstart, HIN.out, HST.out, h2, hse⟩
                have hhok := HOK.out a i hline
                have HL2 : Hid (rhdsL T.data.toList f (T.size + 1) 0 0 [] = rhdsL T.data.toList f (T.size + 1 - (i + 1)) (i + 1) (i + 1) (hs ++ [rhd T.data.toList f a i])) := by show _ = _; rw [HL.out, HE.out, rhdsL_yes HEND.out ⟨h2, hse⟩]
                have hok3 := hhok.1
                have HK : Hid _ := hhok.2
                clear HL HIN HS HN hba hbb2 h35 h74 hse hline hhok hstart
                go_wp2_with fail
                refine (refhead_any T f a i _ hT hle hok3 HK.out).mono ?_
                rintro e w1 ⟨he, hB1⟩
                have hown1 := owns_below hown hB1
                replace hB1 := hB.trans (hB1.mono hB.size)
                generalize rhd T.data.toList f a i = x at *
                have hP : rvV x = .agg #[.string (bs x.name), .int .i64 x.nodes, .int .i64 x.time, .bool x.arr, .int .i64 x.lo, .int .i64 x.hi, .string (bs x.after), .string (bs x.want), .int .i64 x.nameAt, .int .i64 x.nodesAt, .int .i64 x.timeAt, .int .i64 x.arrayAt, .int .i64 x.wantAt] := rfl
                rw [hP] at he
                clear hP
                subst he
                have q2 := hB1.size
                clear hown hB
                go_wp2_with (at_builtin; refine wpList_append_own _ rfl _ _ 33 rfl w.heap.size 39 i0 (.agg (rvC rv0)) 13 128 Try.underlying33 hi hz0 hz1 hz2 rfl (by decide) _ _ _ rfl ((hown1.alloc _).alloc _) ⟨w1.heap.size + 1, 0, none⟩ 1 1 (rvC x).toList rfl rfl ?c1 ?c2 ?c3 ?c4 ?c5 ?_)
                case c1 =>
                  refine new_cells (t := 39) ?_
                  have := whole_new (w1.alloc (.cells (rvC x) 39)) (.cells (rvC x) 39)
                  rw [World.size_alloc] at this; exact this
                case c2 => intro u hu; simp [rvC] at hu; rcases hu with rfl | rfl | rfl | rfl | rfl | rfl | rfl | rfl | rfl | rfl | rfl | rfl | rfl <;> rfl
                case c3 => unfold maxLen; omega
                case c4 => omega
                case c5 => simp; omega
                intro v4 w4 hown4 hgrow4 _
                have hB4 : Below w.heap.size w w4 := ((hB1.alloc (by omega) _).alloc (by simp; omega) _).grown hgrow4 (by simp; omega) (fun k hk => (hown1.lt k hk).1)
                rw [← flatR_snoc] at hown4
                replace hown4 : w4.ownsRow w.heap.size 39 13 v4 (hs ++ [x]).length (flatR (hs ++ [x])) := by simpa using hown4
                have hl4 : (hs ++ [x]).length ≤ i + 1 := by simp; omega
                clear hgrow4 hown1 hB1
                generalize hs ++ [x] = hs' at *
                go_wp2_with fail
                go_roundg (T.size + 1 - (i + 1))
                case measure => omega
                case rel => exact ⟨i + 1, i + 1, hs', rfl, by omega, by omega, hl4, by go_num, by go_num, hown4, hB4, HNX, fun j h1 h2 => by omega, HL2⟩
              · have f3 : ((T[a + 1].toNat : Int) == 74) = false := by rw [beq_eq_false_iff_ne]; omega
                have HL2 : Hid (rhdsL T.data.toList f (T.size + 1) 0 0 [] = rhdsL T.data.toList f (T.size + 1 - (i + 1)) (i + 1) (i + 1) hs) := by show _ = _; rw [HL.out, HE.out, rhdsL_no HEND.out (by intro q; have := q.2; simp [seesB, h74] at this)]
                clear HL HIN HS HN hba hbb2 h35 h74
                go_wp2_with fail
                go_roundg (T.size + 1 - (i + 1))
                case measure => omega
                case rel => exact ⟨i + 1, i + 1, hs, rfl, by omega, by omega, by omega, by go_num, by go_num, hown, hB, HNX, fun j h1 h2 => by omega, HL2⟩
            · have f2 : ((T[a].toNat : Int) == 35) = false := by rw [beq_eq_false_iff_ne]; omega
              have HL2 : Hid (rhdsL T.data.toList f (T.size + 1) 0 0 [] = rhdsL T.data.toList f (T.size + 1 - (i + 1)) (i + 1) (i + 1) hs) := by show _ = _; rw [HL.out, HE.out, rhdsL_no HEND.out (by intro q; have := q.2; simp [seesB, h35] at this)]
              clear HL HIN HS HN hba hbb2 h35
              go_wp2_with fail
              go_roundg (T.size + 1 - (i + 1))
              case measure => omega
              case rel => exact ⟨i + 1, i + 1, hs, rfl, by omega, by omega, by omega, by go_num, by go_num, hown, hB, HNX, fun j h1 h2 => by omega, HL2⟩
          · have h2' : decide ((2 : Int) ≤ (i : Int) - (a : Int)) = false := by simp; omega
            have HL2 : Hid (rhdsL T.data.toList f (T.size + 1) 0 0 [] = rhdsL T.data.toList f (T.size + 1 - (i + 1)) (i + 1) (i + 1) hs) := by show _ = _; rw [HL.out, HE.out, rhdsL_no HEND.out (by omega)]
            clear HL HIN HS HN 
            go_wp2_with fail
            go_roundg (T.size + 1 - (i + 1))
            case measure => omega
            case rel => exact ⟨i + 1, i + 1, hs, rfl, by omega, by omega, by omega, by go_num, by go_num, hown, hB, HNX, fun j h1 h2 => by omega, HL2⟩
        · have f1 : ((T[i].toNat : Int) != 10) = true := by rw [bne_iff_ne]; omega
          have HL2 : Hid (rhdsL T.data.toList f (T.size + 1) 0 0 [] = rhdsL T.data.toList f (T.size + 1 - (i + 1)) (i + 1) a hs) := by show _ = _; rw [HL.out, HE.out, rhdsL_in ⟨by rw [HLEN.out]; exact hlt, hnl⟩]
          have HIN2 : Hid (∀ j, a ≤ j → j < i + 1 → byt T.data.toList j ≠ 10) := by
            intro j h1 h2
            by_cases e : j = i
            · subst e; exact hnl
            · exact HIN.out j h1 (by omega)
          clear HL HIN hbb hnl
          go_wp2_with fail
          go_roundg (T.size + 1 - (i + 1))
          case measure => omega
          case rel => exact ⟨i + 1, a, hs, rfl, by omega, by omega, by omega, by go_num, rfl, hown, hB, HS, HIN2, HL2⟩
      · have hlt' : decide ((i : Int) < (T.size : Int)) = false := by simp; omega
        have HST : Hid (i = T.data.toList.length ∨ byt T.data.toList i = 10) := Or.inl (by rw [HLEN.out]; omega)
        have HEND : Hid (¬ (i < T.data.toList.length ∧ byt T.data.toList i ≠ 10)) := by intro q; have := q.1; rw [HLEN.out] at this; omega
        have HNX : Hid (i + 1 = 0 ∨ byt T.data.toList (i + 1 - 1) = 10 ∨ T.size < i + 1) := Or.inr (Or.inr (by omega))
        by_cases h2 : a + 2 ≤ i
        · have h2' : (2 : Int) ≤ (i : Int) - (a : Int) := by omega
          have b0 : a < T.size := by omega
          have b1 : a + 1 < T.size := by omega
          have b0' : (a : Int) < (T.size : Int) := by omega
          have b1' : (a : Int) + 1 < (T.size : Int) := by omega
          have hba := byt_arr T a b0
          have hbb2 := byt_arr T (a + 1) b1
          by_cases h35 : byt T.data.toList a = 35
          · have f2 : ((T[a].toNat : Int) == 35) = true := by rw [beq_iff_eq]; omega
            by_cases h74 : byt T.data.toList (a + 1) = 74
            · have f3 : ((T[a + 1].toNat : Int) == 74) = true := by rw [beq_iff_eq]; omega
              have hse : seesB T.data.toList a = true := by simp [seesB, h35, h74]
              have hstart : a = 0 ∨ byt T.data.toList (a - 1) = 10 := by rcases HS.out with q | q | q <;> first | exact Or.inl q | exact Or.inr q | omega
              have hline : HLine T.data.toList a i := ⟨hai, by rw [HLEN.out]; exact hle, hstart, HIN.out, HST.out, h2, hse⟩
              have hhok := HOK.out a i hline
              have HL2 : Hid (rhdsL T.data.toList f (T.size + 1) 0 0 [] = rhdsL T.data.toList f (T.size + 1 - (i + 1)) (i + 1) (i + 1) (hs ++ [rhd T.data.toList f a i])) := by show _ = _; rw [HL.out, HE.out, rhdsL_yes HEND.out ⟨h2, hse⟩]
              have hok3 := hhok.1
              have HK : Hid _ := hhok.2
              clear HL HIN HS HN hba hbb2 h35 h74 hse hline hhok hstart
              go_wp2_with fail
              refine (refhead_any T f a i _ hT hle hok3 HK.out).mono ?_
              rintro e w1 ⟨he, hB1⟩
              have hown1 := owns_below hown hB1
              replace hB1 := hB.trans (hB1.mono hB.size)
              generalize rhd T.data.toList f a i = x at *
              have hP : rvV x = .agg #[.string (bs x.name), .int .i64 x.nodes, .int .i64 x.time, .bool x.arr, .int .i64 x.lo, .int .i64 x.hi, .string (bs x.after), .string (bs x.want), .int .i64 x.nameAt, .int .i64 x.nodesAt, .int .i64 x.timeAt, .int .i64 x.arrayAt, .int .i64 x.wantAt] := rfl
              rw [hP] at he
              clear hP
              subst he
              have q2 := hB1.size
              clear hown hB
              go_wp2_with (at_builtin; refine wpList_append_own _ rfl _ _ 33 rfl w.heap.size 39 i0 (.agg (rvC rv0)) 13 128 Try.underlying33 hi hz0 hz1 hz2 rfl (by decide) _ _ _ rfl ((hown1.alloc _).alloc _) ⟨w1.heap.size + 1, 0, none⟩ 1 1 (rvC x).toList rfl rfl ?c1 ?c2 ?c3 ?c4 ?c5 ?_)
              case c1 =>
                refine new_cells (t := 39) ?_
                have := whole_new (w1.alloc (.cells (rvC x) 39)) (.cells (rvC x) 39)
                rw [World.size_alloc] at this; exact this
              case c2 => intro u hu; simp [rvC] at hu; rcases hu with rfl | rfl | rfl | rfl | rfl | rfl | rfl | rfl | rfl | rfl | rfl | rfl | rfl <;> rfl
              case c3 => unfold maxLen; omega
              case c4 => omega
              case c5 => simp; omega
              intro v4 w4 hown4 hgrow4 _
              have hB4 : Below w.heap.size w w4 := ((hB1.alloc (by omega) _).alloc (by simp; omega) _).grown hgrow4 (by simp; omega) (fun k hk => (hown1.lt k hk).1)
              rw [← flatR_snoc] at hown4
              replace hown4 : w4.ownsRow w.heap.size 39 13 v4 (hs ++ [x]).length (flatR (hs ++ [x])) := by simpa using hown4
              have hl4 : (hs ++ [x]).length ≤ i + 1 := by simp; omega
              clear hgrow4 hown1 hB1
              generalize hs ++ [x] = hs' at *
              go_wp2_with fail
              go_roundg (T.size + 1 - (i + 1))
              case measure => omega
              case rel => exact ⟨i + 1, i + 1, hs', rfl, by omega, by omega, hl4, by go_num, by go_num, hown4, hB4, HNX, fun j h1 h2 => by omega, HL2⟩
            · have f3 : ((T[a + 1].toNat : Int) == 74) = false := by rw [beq_eq_false_iff_ne]; omega
              have HL2 : Hid (rhdsL T.data.toList f (T.size + 1) 0 0 [] = rhdsL T.data.toList f (T.size + 1 - (i + 1)) (i + 1) (i + 1) hs) := by show _ = _; rw [HL.out, HE.out, rhdsL_no HEND.out (by intro q; have := q.2; simp [seesB, h74] at this)]
              clear HL HIN HS HN hba hbb2 h35 h74
              go_wp2_with fail
              go_roundg (T.size + 1 - (i + 1))
              case measure => omega
              case rel => exact ⟨i + 1, i + 1, hs, rfl, by omega, by omega, by omega, by go_num, by go_num, hown, hB, HNX, fun j h1 h2 => by omega, HL2⟩
          · have f2 : ((T[a].toNat : Int) == 35) = false := by rw [beq_eq_false_iff_ne]; omega
            have HL2 : Hid (rhdsL T.data.toList f (T.size + 1) 0 0 [] = rhdsL T.data.toList f (T.size + 1 - (i + 1)) (i + 1) (i + 1) hs) := by show _ = _; rw [HL.out, HE.out, rhdsL_no HEND.out (by intro q; have := q.2; simp [seesB, h35] at this)]
            clear HL HIN HS HN hba hbb2 h35
            go_wp2_with fail
            go_roundg (T.size + 1 - (i + 1))
            case measure => omega
            case rel => exact ⟨i + 1, i + 1, hs, rfl, by omega, by omega, by omega, by go_num, by go_num, hown, hB, HNX, fun j h1 h2 => by omega, HL2⟩
        · have h2' : decide ((2 : Int) ≤ (i : Int) - (a : Int)) = false := by simp; omega
          have HL2 : Hid (rhdsL T.data.toList f (T.size + 1) 0 0 [] = rhdsL T.data.toList f (T.size + 1 - (i + 1)) (i + 1) (i + 1) hs) := by show _ = _; rw [HL.out, HE.out, rhdsL_no HEND.out (by omega)]
          clear HL HIN HS HN 
          go_wp2_with fail
          go_roundg (T.size + 1 - (i + 1))
          case measure => omega
          case rel => exact ⟨i + 1, i + 1, hs, rfl, by omega, by omega, by omega, by go_num, by go_num, hown, hB, HNX, fun j h1 h2 => by omega, HL2⟩
    · have hle' : decide ((i : Int) ≤ (T.size : Int)) = false := by simp; omega
      have HL2 : Hid (rhds T.data.toList f = hs) := by show _ = _; rw [HN.out, HL.out, show T.size + 1 - i = 0 from by omega]; rfl
      clear HL HN HIN HS
      go_wp2_with fail
      go_ret
      rw [HL2.out]
      exact ⟨_, rfl, hown, hB⟩

end Go.Proofs.Ytanknpmojblmcaa
