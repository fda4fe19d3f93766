/-
  A batch that is made, and its text.
-/
import Derived.Test.YtanknpmojblmcaaDoorKHead
import Derived.Test.YtanknpmojblmcaaDoorMathU
set_option linter.unusedSimpArgs false
set_option linter.unusedVariables false
namespace Go.Proofs.YtanknpmojblmcaaDoor
open Go.RowKit

theorem infoString : (Tryd.prog.info? 9).map (fun i => (i.zero, i.size, i.bytes)) = some (some (.string ⟨#[]⟩), 1, 16) := by kernel_rfl
theorem onL_take (k i : Nat) : onL k (i + 1) = onL k i ++ [nameL ((k + i) % 5)] := by simp [onL, List.range_succ]

/-- What making a batch leaves. -/
def BtR (b : Nat) (bn bj : Nat) (ms : List MV) (w : World) (e : Ending) (w' : World) : Prop :=
  ∃ (S : List UInt8) (v' : Value) (ns : List MV) (js : List JV) (bj' : Nat), e = .returned (.string (bs S)) ∧ 1 ≤ ns.length ∧ ns.length ≤ 3 ∧ bj' ≤ bj + 18 ∧ ns.length = js.length ∧ readJ S = js ∧ (readH S).2 = (0, 0) ∧ S.length ≤ 600 ∧ Hid (S.length ≤ 390 ∧ ∃ ls : List (List UInt8), S = jnl 10 ls ∧ (∀ t ∈ ls, LnOK t) ∧ ∃ r u, ls = r ++ [35 :: 74 :: u]) ∧ (∀ x ∈ ns, GoodM x) ∧ (∀ k (h1 : k < ns.length) (h2 : k < js.length), RM ns[k] js[k]) ∧
    Bk b v' (bn + 1) bj' w' ∧ w'.ownsRow (b + 1) 35 12 v' (ms ++ ns).length (flatM (ms ++ ns)) ∧ Below b w w'

theorem HUp.below {b f : Nat} {v : Value} {w w' : World} (h : HUp b f v w w') (hbf : b < f) (hb : b ≤ w.heap.size) {e : TypeId} {size n : Nat} {xs : List Value} (hM : w.ownsRow (b + 1) e size v n xs) : Below b w w' :=
  ⟨h.os, h.tape, h.output, h.size, fun k hk => h.block k (by omega) (by omega) (by omega) (fun q => by have := (hM.lt k q).1; omega)⟩
theorem bs_nil : bs [] = ⟨#[]⟩ := rfl

attribute [local go_sem ↓] Go.wp_at_zero Go.wp_at_succ
set_option maxRecDepth 100000 in
set_option maxHeartbeats 8000000 in
theorem batchB_any (b : Nat) (v : Value) (bn bj : Nat) (ms : List MV) (T : ByteArray) (w : World) (hB : Bk b v bn bj w) (hM : w.ownsRow (b + 1) 35 12 v ms.length (flatM ms)) (hT : T.size ≤ maxLen) (hl : ms.length ≤ 3) (hg : ∀ x ∈ ms, GoodM x) (hbn : bn ≤ 90) (hbj : bj ≤ 200) :
    Calls Tryd.prog 4 #[.pointer (some ⟨b, 0, none⟩), .string T, .int .i64 8] w (BtR b bn bj ms w) := by
  unfold BtR
  obtain ⟨i0, hI0, hz0, hz1, hz2⟩ := info_parts infoString
  have hbl := hB.lt
  have b1 := hB.c 1; have zb1 := whole_frozen hB 1
  simp at b1
  obtain ⟨bn1, hbn1⟩ : ∃ bn1 : Nat, bn1 = bn + 1 := ⟨_, rfl⟩
  have ebn : (bn : Int) + 1 = (bn1 : Int) := by omega
  have hbn2 : bn1 ≤ 91 := by omega
  have HBN : Hid (bn1 = bn + 1) := hbn1
  clear hbn1
  have hbnI : (bn : Int) ≤ 90 := by omega
  go_enter Tryd.func4, Tryd.ntmps4
  go_wp2_with fail
  have hF0 : FdA w.heap.size ((w.setCell ⟨b, 1, none⟩ (.int .i64 (bn1 : Int))).alloc (.cells #[.string T, .int .i64 0] 41)) := by
    have q := whole_new (w.setCell ⟨b, 1, none⟩ (.int .i64 (bn1 : Int))) (.cells #[.string T, .int .i64 0] 41 (0, 0))
    have q2 : (w.setCell ⟨b, 1, none⟩ (.int .i64 (bn1 : Int))).heap.size = w.heap.size := by simp [World.setCell]
    rw [q2] at q
    exact ⟨T, 0, q, hT, Nat.zero_le _⟩
  have hB0 : Bk b v bn1 bj ((w.setCell ⟨b, 1, none⟩ (.int .i64 (bn1 : Int))).alloc (.cells #[.string T, .int .i64 0] 41)) := whole_alloc (whole_set hB 1 _) _
  have hM0 := (owns_set' hM 1 (.int .i64 (bn1 : Int))).alloc (.cells #[.string T, .int .i64 0] 41)
  have hW0 : Below b w ((w.setCell ⟨b, 1, none⟩ (.int .i64 (bn1 : Int))).alloc (.cells #[.string T, .int .i64 0] 41)) := ((Below.refl b w).setCell (p := ⟨b, 1, none⟩) (Nat.le_refl _) (.int .i64 (bn1 : Int))).alloc (by simp [World.setCell]; omega) _
  clear b1 zb1 hB hM ebn
  generalize (w.setCell ⟨b, 1, none⟩ (.int .i64 (bn1 : Int))).alloc (.cells #[.string T, .int .i64 0] 41) = x0 at *
  generalize hff : w.heap.size = f at *
  have hbf : b < f := by omega
  have hbf' : f ≠ b := by omega
  clear hff
  -- how many, and which names
  refine (next_any f 3 _ hF0 (by omega) (by omega)).mono ?_
  rintro e x1 ⟨k1, hk1, rfl, hF1, ha1⟩
  have hB1 : Bk b v bn1 bj x1 := (ha1.block b hB0.lt (by omega)).trans hB0
  have hvf : v.ownBlock ≠ some f := by obtain ⟨_, _, hfd, _⟩ := hF0; exact row_ne hM0 hfd (by decide)
  have hM1 := hM0.kept ha1.grownBy (Or.inr hvf)
  have hW1 : Below b w x1 := hW0.trans (ha1.below_of (Nat.le_of_lt hbf) (Nat.le_of_lt hB0.lt))
  clear ha1 hF0 hB0 hM0 hW0
  obtain ⟨n, hn⟩ : ∃ n : Nat, n = 1 + k1 := ⟨_, rfl⟩
  have en : (1 : Int) + (k1 : Int) = (n : Int) := by omega
  have hn1 : 1 ≤ n ∧ n ≤ 3 := by omega
  clear hn
  go_wp2_with fail
  refine (next_any f 5 _ hF1 (by omega) (by omega)).mono ?_
  rintro e x2 ⟨k, hk, rfl, hF2, ha2⟩
  have hB2 : Bk b v bn1 bj x2 := (ha2.block b hB1.lt (by omega)).trans hB1
  have hM2 := hM1.kept ha2.grownBy (Or.inr hvf)
  have hW2 : Below b w x2 := hW1.trans (ha2.below_of (Nat.le_of_lt hbf) (Nat.le_of_lt hB1.lt))
  clear ha2 hF1 hB1 hM1 hW1 en
  go_wp2_with fail
  have hx2 := hB2.lt
  have hfx2 := hF2.lt
  go_loopg [8, 11] (n + 1) (fun r ov x wr => ∃ i : Nat, i ≤ n ∧ r = n - i + 1 ∧ x = .int .i64 (i : Int) ∧ wr.ownsRow x2.heap.size 9 1 ov i ((onL k i).map sV) ∧ Below x2.heap.size x2 wr)
  case atStart => exact ⟨0, Nat.zero_le _, rfl, rfl, World.ownsRow_nil _ _ _ _, Below.refl _ _⟩
  case round =>
    obtain ⟨i, hi, rfl, rfl, hown, hBx⟩ := hrel
    by_cases hlt : i < n
    · have hlt' : (i : Int) < (n : Int) := by omega
      have hkI : (k : Int) ≤ 5 := by omega
      have hiI : (i : Int) ≤ 3 := by omega
      obtain ⟨ki, hki⟩ : ∃ ki : Nat, ki = k + i := ⟨_, rfl⟩
      have eki : (k : Int) + (i : Int) = (ki : Int) := by omega
      have hki2 : ki ≤ 100 := by omega
      have HKI : Hid (ki = k + i) := hki
      clear hki
      go_wp2_with fail
      refine (letters_any ki hki2 _).mono ?_
      rintro e x3 ⟨rfl, hB3⟩
      have hown3 := owns_below hown hB3
      have hBx3 := hBx.trans (hB3.mono hBx.size)
      have hsz3 := hBx3.size
      go_wp2_with (at_builtin; refine wpList_append_own _ rfl _ _ 42 rfl x2.heap.size 9 i0 (.string ⟨#[]⟩) 1 16 Tryd.underlying42 hI0 hz0 hz1 hz2 rfl (by decide) _ i _ rfl (hown3.alloc _) ⟨x3.heap.size, 0, none⟩ 1 1 [.string (bs (nameL (ki % 5)))] rfl rfl (World.news_of_block (cs := #[.string (bs (nameL (ki % 5)))]) (t := 9) (fr := (0, 0)) (heap_alloc_new x3 _)) ?c2 ?c3 ?c4 ?c5 ?_)
      case c2 => first | rfl | (intro u hu; simp at hu; subst hu; rfl)
      case c3 => unfold maxLen; omega
      case c4 => omega
      case c5 => first | omega | (simp; omega)
      intro v4 x4 hown4 hgrow4 _
      have hBx4 : Below x2.heap.size x2 x4 := (hBx3.alloc (by omega) _).grown hgrow4 (by simp; omega) (fun q hq => (hown3.lt q hq).1)
      replace hown4 : x4.ownsRow x2.heap.size 9 1 v4 (i + 1) ((onL k (i + 1)).map sV) := by
        rw [onL_take, ← HKI.out]; simpa [sV] using hown4
      clear hgrow4 hown3 hown hB3 hBx hBx3
      go_wp2_with fail
      go_roundg (n - (i + 1) + 1)
      case measure => omega
      case rel => exact ⟨i + 1, by omega, rfl, by go_num, hown4, hBx4⟩
    · have hlt' : decide ((i : Int) < (n : Int)) = false := by simp; omega
      have hin : i = n := by omega
      subst hin
      have hon : (onL k i).length = i := onL_len k i
      have hF3 : FdA f wr := hF2.block (hBx.block f hfx2)
      have hB3 : Bk b v bn1 bj wr := (hBx.block b hx2).trans hB2
      have hM3 := owns_below hM2 hBx
      have hW3 : Below b w wr := hW2.trans (hBx.mono (Nat.le_of_lt hx2))
      clear hF2 hB2 hM2 hW2 hBx hlt hlt'
      obtain ⟨on, hone⟩ : ∃ on, on = onL k i := ⟨_, rfl⟩
      rw [← hone] at hown hon
      have HON : Hid (on = onL k i) := hone
      clear hone
      have hown' := hown
      rw [← hon] at hown'
      clear hown
      generalize i = n at *
      obtain ⟨oa, oc, hof⟩ := (Ow.of hown').form
      subst hof
      have HONL : Hid (on.length = n) := hon
      clear hon
      go_wp2_with fail
      go_loopg [12, 13] (n + 1) (fun r sv x wz => ∃ (i : Nat) (S : List UInt8) (ns : List MV) (js : List JV) (l : List (List UInt8 × Option JV)) (v1 : Value) (bj1 : Nat), i ≤ n ∧ r = n - i + 1 ∧ x = .int .i64 (i : Int) ∧ sv = .string (bs S) ∧ Hid (BtI on n i S ns js l) ∧ S.length ≤ 130 * i ∧ ns.length = i ∧ bj1 ≤ bj + 6 * i ∧ Bk b v1 bn1 bj1 wz ∧ wz.ownsRow (b + 1) 35 12 v1 (ms ++ ns).length (flatM (ms ++ ns)) ∧ FdA f wz ∧ wz.ownsRow x2.heap.size 9 1 (.slice oa on.length oc) on.length (on.map sV) ∧ Below b w wz)
      case atStart => exact ⟨0, [], [], [], [], v, bj, Nat.zero_le _, rfl, rfl, rfl, BtI.zero on (by omega), by simp, rfl, by omega, hB3, by simpa using hM3, hF3, hown', hW3⟩
      case round =>
        obtain ⟨i, S, ns, js, l, v1, bj1, hi, rfl, rfl, rfl, BT, hSl, hnl, hbj1, hB4, hM4, hF4, hO4, hW4⟩ := hrel
        have zS := bs_size S
        by_cases hlt : i < n
        · have hlt' : (i : Int) < (n : Int) := by omega
          have hvf4 : v1.ownBlock ≠ some f := by obtain ⟨_, _, hfd, _⟩ := hF4; exact row_ne hM4 hfd (by decide)
          have hof4 : (Value.slice oa on.length oc).ownBlock ≠ some f := by obtain ⟨_, _, hfd, _⟩ := hF4; exact row_ne hO4 hfd (by decide)
          have HGD : Hid (∀ x ∈ ms ++ ns, GoodM x) := by
            intro x hx
            rcases List.mem_append.1 hx with hx | hx
            · exact hg x hx
            · exact BT.out.good x hx
          have hion : i < on.length := by rw [HONL.out]; exact hlt
          have HNMK : Hid (NameOK on[i]) := by
            have e : on[i] = nameL ((k + i) % 5) := by simp only [HON.out]; exact onL_get k n i (by rw [onL_len]; exact hlt)
            show NameOK on[i]
            rw [e]; exact nameL_ok _
          go_wp2_with fail
          refine (next_any f 4 _ hF4 (by omega) (by omega)).mono ?_
          rintro e y4 ⟨c4, hc4, rfl, hF5, ha5⟩
          have hB5 : Bk b v1 bn1 bj1 y4 := (ha5.block b hB4.lt (by omega)).trans hB4
          have hM5 := hM4.kept ha5.grownBy (Or.inr hvf4)
          have hO5 := hO4.kept ha5.grownBy (Or.inr hof4)
          have hW5 : Below b w y4 := hW4.trans (ha5.below_of (Nat.le_of_lt hbf) (Nat.le_of_lt hB4.lt))
          clear ha5 hB4 hM4 hO4 hW4 hF4
          by_cases hc41 : c4 = 1
          · subst hc41
            rcases Ow.of hO5 with ⟨_, hq⟩ | ⟨og, ocap, hq, hoc, hog, hocell⟩
            · rw [hq] at hion; simp at hion
            cases hq
            have oi := hocell i hion
            have zn := bs_size on[i]
            have zn6 := HNMK.out.2.2
            have hiI : (i : Int) < (on.length : Int) := by omega
            clear hocell
            go_wp2_with fail
            refine (headB_any b f x2.heap.size v1 bn1 bj1 (ms ++ ns) _ on i _ hB5 hM5 hO5 hF5 hion (by have := HONL.out; omega) (by simp; omega) HGD.out (by omega) (by omega) HNMK.out).mono ?_
            rintro e y5 ⟨m, v6, rfl, gm, nmE, afE, wnE, hB6, hM6, hF6, hO6, hU6⟩
            have hW6 : Below b w y5 := hW5.trans (hU6.below hbf (Nat.le_of_lt hB5.lt) hM5)
            have hlen6 : (wrL m.job m.want).length ≤ 115 := by obtain ⟨_, _, _, _, _, q⟩ := rm_of gm wnE; exact q
            have zl := bs_size (wrL m.job m.want)
            obtain ⟨js6, l6, BT6⟩ := BT.out.step hlt hion HNMK.out.1 HNMK.out.2.2 gm nmE wnE true
            have hcnt := gm.2.2.1
            have HM6 : y5.ownsRow (b + 1) 35 12 v6 (ms ++ (ns ++ [m])).length (flatM (ms ++ (ns ++ [m]))) := by
              have e : (ms ++ (ns ++ [m])).length = (ms ++ ns).length + 1 := by simp; omega
              rw [e, ← List.append_assoc]; exact hM6
            have HB6 : Hid (BtI on n (i + 1) (S ++ cmdT true on[i] ++ wrL m.job m.want ++ endT (decide (i + 1 < n))) (ns ++ [m]) js6 l6) := BT6
            clear BT6 BT hB5 hM5 hF5 hO5 hW5 hU6 hM6 gm wnE afE nmE
            generalize wrL m.job m.want = LN at *
            by_cases hlast : i + 1 < n
            · have hlast' : (i : Int) + 1 < (n : Int) := by omega
              have HB7 := HB6.out
              rw [decide_eq_true hlast] at HB7
              have HB8 : Hid _ := HB7
              clear HB7 HB6
              go_wp2_with fail
              go_roundg (n - (i + 1) + 1)
              case measure => omega
              case rel =>
                refine ⟨i + 1, _, ns ++ [m], js6, l6, v6, bj1 + m.count, by omega, rfl, by go_num, ?_, HB8, HB8.out.size, by simp [hnl], by omega, hB6, HM6, hF6, hO6, hW6⟩
                congr 1
                simp only [cmdT, endT]
                simp [← bs_append, ByteArray.append_assoc]; rfl
            · have hlast' : decide ((i : Int) + 1 < (n : Int)) = false := by simp; omega
              have HB7 := HB6.out
              rw [decide_eq_false hlast] at HB7
              have HB8 : Hid _ := HB7
              clear HB7 HB6
              go_wp2_with fail
              go_roundg (n - (i + 1) + 1)
              case measure => omega
              case rel =>
                refine ⟨i + 1, _, ns ++ [m], js6, l6, v6, bj1 + m.count, by omega, rfl, by go_num, ?_, HB8, HB8.out.size, by simp [hnl], by omega, hB6, HM6, hF6, hO6, hW6⟩
                congr 1
                simp only [cmdT, endT]
                simp [← bs_append, ByteArray.append_assoc]; rfl
          · have hc4' : ((c4 : Int) == 1) = false := by rw [beq_eq_false_iff_ne]; omega
            go_wp2_with fail
            refine (headB_any b f x2.heap.size v1 bn1 bj1 (ms ++ ns) _ on i _ hB5 hM5 hO5 hF5 hion (by have := HONL.out; omega) (by simp; omega) HGD.out (by omega) (by omega) HNMK.out).mono ?_
            rintro e y5 ⟨m, v6, rfl, gm, nmE, afE, wnE, hB6, hM6, hF6, hO6, hU6⟩
            have hW6 : Below b w y5 := hW5.trans (hU6.below hbf (Nat.le_of_lt hB5.lt) hM5)
            have hlen6 : (wrL m.job m.want).length ≤ 115 := by obtain ⟨_, _, _, _, _, q⟩ := rm_of gm wnE; exact q
            have zl := bs_size (wrL m.job m.want)
            obtain ⟨js6, l6, BT6⟩ := BT.out.step hlt hion HNMK.out.1 HNMK.out.2.2 gm nmE wnE false
            have hcnt := gm.2.2.1
            have HM6 : y5.ownsRow (b + 1) 35 12 v6 (ms ++ (ns ++ [m])).length (flatM (ms ++ (ns ++ [m]))) := by
              have e : (ms ++ (ns ++ [m])).length = (ms ++ ns).length + 1 := by simp; omega
              rw [e, ← List.append_assoc]; exact hM6
            have HB6 : Hid (BtI on n (i + 1) (S ++ cmdT false on[i] ++ wrL m.job m.want ++ endT (decide (i + 1 < n))) (ns ++ [m]) js6 l6) := BT6
            clear BT6 BT hB5 hM5 hF5 hO5 hW5 hU6 hM6 gm wnE afE nmE
            generalize wrL m.job m.want = LN at *
            by_cases hlast : i + 1 < n
            · have hlast' : (i : Int) + 1 < (n : Int) := by omega
              have HB7 := HB6.out
              rw [decide_eq_true hlast] at HB7
              have HB8 : Hid _ := HB7
              clear HB7 HB6
              go_wp2_with fail
              go_roundg (n - (i + 1) + 1)
              case measure => omega
              case rel =>
                refine ⟨i + 1, _, ns ++ [m], js6, l6, v6, bj1 + m.count, by omega, rfl, by go_num, ?_, HB8, HB8.out.size, by simp [hnl], by omega, hB6, HM6, hF6, hO6, hW6⟩
                congr 1
                simp only [cmdT, endT]
                simp [← bs_append, ByteArray.append_assoc]; rfl
            · have hlast' : decide ((i : Int) + 1 < (n : Int)) = false := by simp; omega
              have HB7 := HB6.out
              rw [decide_eq_false hlast] at HB7
              have HB8 : Hid _ := HB7
              clear HB7 HB6
              go_wp2_with fail
              go_roundg (n - (i + 1) + 1)
              case measure => omega
              case rel =>
                refine ⟨i + 1, _, ns ++ [m], js6, l6, v6, bj1 + m.count, by omega, rfl, by go_num, ?_, HB8, HB8.out.size, by simp [hnl], by omega, hB6, HM6, hF6, hO6, hW6⟩
                congr 1
                simp only [cmdT, endT]
                simp [← bs_append]
        · have hlt' : decide ((i : Int) < (n : Int)) = false := by simp; omega
          have hin : i = n := by omega
          subst hin
          have HBT := BT.out
          rw [HON.out] at HBT
          obtain ⟨rd1, rd2⟩ := HBT.reads hk (by omega) (by omega)
          have HR : Hid (readJ S = js ∧ (readH S).2 = (0, 0)) := ⟨rd1, rd2⟩
          have HQ : Hid (BtI (onL k i) i i S ns js l) := HBT
          clear HBT rd1 rd2
          go_wp2_with fail
          go_ret
          refine ⟨S, v1, ns, js, bj1, rfl, by omega, by omega, by omega, by rw [HQ.out.len, HQ.out.jlen], HR.out.1, HR.out.2, by omega, ⟨by omega, l.map Prod.fst, HQ.out.s2 rfl, (fun t ht => by obtain ⟨x, hx, rfl⟩ := List.mem_map.1 ht; exact HQ.out.lns x hx), HQ.out.last (by omega)⟩, HQ.out.good, HQ.out.rm, ?_, hM4, hW4⟩
          rw [← HBN.out]; exact hB4

end Go.Proofs.YtanknpmojblmcaaDoor
