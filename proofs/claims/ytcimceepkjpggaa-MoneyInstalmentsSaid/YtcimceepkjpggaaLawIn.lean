/-
  MoneyInstalments returns true.
-/
import Derived.Test.YtcimceepkjpggaaRIn
import Derived.Test.YtcimceepkjpggaaMnAw
import Derived.Laws.StructEq
namespace Go.Proofs.Ytcimceepkjpggaa
open Go.RowKit
attribute [local go_sem] set_drewN
theorem psum {c : Int} {n : Nat} (h0 : 0 ≤ c) (n1 : 1 ≤ n) : ∀ k : Nat, sumL (psM c n k) = k * (c / n) + min (k : Int) (c % n)
  | 0 => by
    have hm := Int.emod_nonneg c (show (n : Int) ≠ 0 by omega)
    simp [psM, sumL]; omega
  | k + 1 => by
    have hm := Int.emod_nonneg c (show (n : Int) ≠ 0 by omega)
    rw [psM_succ, sumL_app, psum h0 n1 k]
    have e : sumL [ptM c n k] = ptM c n k := by simp [sumL]
    rw [e]
    have e2 : ((k + 1 : Nat) : Int) * (c / n) = k * (c / n) + c / n := by rw [Int.natCast_succ, Int.add_mul]; omega
    rw [e2]
    unfold ptM
    split <;> omega
theorem iL_sum {c n : Int} (h : iB c n = true) : sumL (iL c n) = c := by
  obtain ⟨m, rfl, h0, h9, m1, m9⟩ := iB_nat h
  unfold iL
  rw [if_pos h, Int.toNat_natCast, psum h0 m1]
  have hm := Int.emod_nonneg c (show (m : Int) ≠ 0 by omega)
  have hm2 := Int.emod_lt_of_pos c (show (0 : Int) < m by omega)
  have := Int.mul_ediv_add_emod c m
  omega
theorem iL_len (c n : Int) : (iL c n).length ≤ 120 := by
  unfold iL
  split
  · rename_i h
    obtain ⟨m, rfl, h0, h9, m1, m9⟩ := iB_nat h
    rw [psM_len]; omega
  · simp
theorem iL_bd {c n : Int} (i : Nat) (hi : i < (iL c n).length) (h0' : 0 < (iL c n).length) : (iL c n)[i] ≤ (iL c n)[0] ∧ (iL c n)[0] - 1 ≤ (iL c n)[i] ∧ 0 ≤ (iL c n)[i] ∧ (iL c n)[i] ≤ 1000000000000 ∧ (iL c n)[0] ≤ 1000000000000 := by
  by_cases h : iB c n = true
  · obtain ⟨m, rfl, h0, h9, m1, m9⟩ := iB_nat h
    have e : iL c m = psM c m m := by unfold iL; rw [if_pos h, Int.toNat_natCast]
    have g : ∀ j (hj : j < (iL c m).length), (iL c m)[j] = ptM c m j := by
      intro j hj
      have hj' : j < (psM c m m).length := by rw [← e]; exact hj
      have : (iL c m)[j]? = (psM c m m)[j]? := by rw [e]
      rw [List.getElem?_eq_getElem hj, List.getElem?_eq_getElem hj'] at this
      rw [Option.some.inj this, psM_get]
    rw [g i hi, g 0 h0']
    have hm := Int.emod_nonneg c (show (m : Int) ≠ 0 by omega)
    have b1 := ptM_bd h0 m1 i
    have b0 := ptM_bd h0 m1 0
    unfold ptM at *
    split at * <;> split at * <;> omega
  · exfalso
    unfold iL at hi
    rw [if_neg h] at hi
    simp at hi
theorem iL_step {c n : Int} {k : Nat} (h : k < (iL c n).length) : ∃ S T, sumL ((iL c n).take k) = S ∧ sumL ((iL c n).take (k + 1)) = T ∧ T = S + (iL c n)[k] ∧ 0 ≤ S ∧ S ≤ 1000000000000000 := by
  have hb := sumL_bd (l := (iL c n).take k) (M := 1000000000000) (fun u m => by
    obtain ⟨j, hj, rfl⟩ := List.mem_iff_getElem.1 (List.mem_of_mem_take m)
    have := iL_bd (c := c) (n := n) j hj (by omega)
    omega)
  have hl := iL_len c n
  have h2 : (((iL c n).take k).length : Int) ≤ 120 := by
    have := List.length_take_le' k (iL c n)
    omega
  exact ⟨_, _, rfl, rfl, sumL_succ h, hb.1, by omega⟩
theorem pL_len (c n d0 d1 : Int) : (pL c n d0 d1).length ≤ 120 := by
  unfold pL
  split
  · rename_i h
    rw [plM_len]
    unfold planB at h
    have h1 := (Bool.and_eq_true_iff.1 h).1
    have h2 := inB_iff.1 (Bool.and_eq_true_iff.1 h1).2
    omega
  · simp
/-- a pair in a box -/
def PrQ (B : Nat) (d0 d1 : Int) (W : World) : Prop := W.cell? ⟨B, 0, none⟩ = some (.int .i64 d0) ∧ W.cell? ⟨B, 1, none⟩ = some (.int .i64 d1)
theorem PrQ.new (w : World) (d0 d1 : Int) : KQ (PrQ w.heap.size d0 d1) w (w.alloc (.cells #[.int .i64 d0, .int .i64 d1] 56)) := by
  refine ⟨fun A B h hb => ?_, ?_, (Below.refl _ _).alloc (Nat.le_refl _) _⟩
  · have l := World.block_lt_of_cell? _ _ h.1
    exact ⟨(hb.cell (p := ⟨w.heap.size, 0, none⟩) l).trans h.1, (hb.cell (p := ⟨w.heap.size, 1, none⟩) l).trans h.2⟩
  · unfold PrQ
    simp [go_sem]
set_option maxRecDepth 100000 in
set_option maxHeartbeats 8000000 in
theorem law_inst (c n d0 d1 : Int) (w : World) : Calls Try.prog 7 #[.int .i64 c, .int .i64 n, .agg #[.int .i64 d0, .int .i64 d1]] w (RetB (.bool true) w) := by
  have K0 := Lib.hid (PrQ.new w d0 d1)
  go_enter Try.func7, Try.ntmps7
  go_wp2_with fail
  refine (awake_any _).mono ?_
  rintro e w1 ⟨rfl, hb1⟩
  have K1 := Lib.hid (K0.out.bl hb1)
  clear hb1
  go_wp2_with fail
  refine (Inst_all c n _).mono ?_
  rintro e w2 ⟨v1, rfl, L1, hb2⟩
  have K2 := Lib.hid (K1.out.bl hb2)
  have LA := Lib.hid L1
  clear hb2 L1
  obtain ⟨j0, j1⟩ := K2.out.q
  go_wp2_with fail
  refine (Plan_all c n d0 d1 _).mono ?_
  rintro e w3 ⟨v2, rfl, L2, hb3⟩
  have K3 := Lib.hid (K2.out.bl hb3)
  have LA := Lib.hid (LA.out.below hb3)
  have LP := Lib.hid L2
  clear hb3 L2 j0 j1
  go_wp2_with fail
  refine (xInst_all c n _).mono ?_
  rintro e w4 ⟨v3, rfl, L3, hb4⟩
  have K4 := Lib.hid (K3.out.bl hb4)
  have LA := Lib.hid (LA.out.below hb4)
  have LP := Lib.hid (LP.out.below hb4)
  have LB := Lib.hid L3
  clear hb4 L3
  have EI := Lib.hid (show iE (iB c n) = 0 → sumL (iL c n) = c from fun h => iL_sum (by
    cases hb : iB c n
    · rw [hb] at h; cases h
    · rfl))
  have XP := Lib.hid (fun W => xPlan_all c n d0 d1 W)
  generalize iE (iB c n) = E1 at *
  generalize iE (planB c n d0 d1) = E2 at *
  have en1 : (E1 != E1) = false := by simp
  have en2 : (E2 != E2) = false := by simp
  go_wp2_with fail
  refine (ints_eq LA.out LB.out (Nat.le_trans (iL_len c n) (by omega))).mono ?_
  rintro e w5 ⟨rfl, hb5⟩
  have K5 := Lib.hid (K4.out.bl hb5)
  have LA := Lib.hid (LA.out.below hb5)
  have LP := Lib.hid (LP.out.below hb5)
  clear hb5
  obtain ⟨j0, j1⟩ := K5.out.q
  go_wp2_with fail
  refine (XP.out _).mono ?_
  rintro e w6 ⟨v4, rfl, L4, hb6⟩
  have K6 := Lib.hid (K5.out.bl hb6)
  have LA := Lib.hid (LA.out.below hb6)
  have LP := Lib.hid (LP.out.below hb6)
  have LQ := Lib.hid L4
  clear hb6 L4 j0 j1
  obtain ⟨a1, c1, rfl, hp1⟩ := LA.out
  obtain ⟨a2, c2, rfl, -, hp2⟩ := LP.out
  obtain ⟨a4, c4, rfl, -, hp4⟩ := LQ.out
  have P1 := Lib.hid hp1
  have P2 := Lib.hid hp2
  have P4 := Lib.hid hp4
  have IL := Lib.hid (iL_len c n)
  have PL := Lib.hid (pL_len c n d0 d1)
  have BDS := Lib.hid (fun i hi h0 => iL_bd (c := c) (n := n) i hi h0)
  have STP := Lib.hid (fun k hk => iL_step (c := c) (n := n) (k := k) hk)
  clear hp1 hp2 hp4 LA LP LQ LB XP
  generalize iL c n = X at *
  generalize pL c n d0 d1 = Y at *
  have il := IL.out
  have pl := PL.out
  go_wp2
  go_loopw [14] (fun iv wr => ∃ k : Nat, k ≤ Y.length ∧ iv = .int .i64 k ∧ Hid (Below w6.heap.size w6 wr)) (fun iv _ => Y.length - (intOf iv).toNat)
  case atStart => exact ⟨0, Nat.zero_le _, rfl, Lib.hid (Below.refl _ _)⟩
  case round =>
    obtain ⟨k, hk, rfl, HB⟩ := hrel
    by_cases hlt : k < Y.length
    · have hne : Y ≠ [] := by rintro rfl; simp at hlt
      obtain ⟨b, o, rfl, hd⟩ := P2.out hne
      obtain ⟨b', o', rfl, hd'⟩ := P4.out hne
      obtain ⟨c0, c1'⟩ := (hd.below HB.out).2 k hlt
      obtain ⟨x0, x1⟩ := (hd'.below HB.out).2 k hlt
      have hkz : (k : Int) < Y.length := by omega
      clear hd hd'
      generalize Y[k] = d at *
      obtain ⟨dd, dc⟩ := d
      simp only at c0 c1' x0 x1
      have z1 : (dd != dd) = false := by simp
      have z2 : (dc != dc) = false := by simp
      go_wp2_with fail
      go_quiet (fail)
      go_wp2
      go_roundw
      case rel => exact ⟨k + 1, by omega, by go_num, Lib.hid (below_n HB.out _)⟩
      case measure => simp [intOf]; omega
    · obtain rfl : k = Y.length := by omega
      have BW := Lib.hid HB.out
      go_wp2
      go_loopw [15, 16] (fun sv iv wx => ∃ (k : Nat) (S : Int), k ≤ X.length ∧ sv = .int .i64 S ∧ iv = .int .i64 k ∧ Hid (sumL (X.take k) = S) ∧ Hid (Below w6.heap.size w6 wx)) (fun _ iv _ => X.length - (intOf iv).toNat)
      case atStart => exact ⟨0, 0, Nat.zero_le _, rfl, rfl, Lib.hid rfl, BW⟩
      case round =>
        obtain ⟨k, S, hk, rfl, rfl, HS, HB2⟩ := hrel
        by_cases hlt : k < X.length
        · have hne : X ≠ [] := by rintro rfl; simp at hlt
          obtain ⟨b, rfl, hbl, hd⟩ := P1.out hne
          have g0 := (HB2.out.cell (p := ⟨b, k, none⟩) hbl).trans (hd k hlt)
          have g1 := (HB2.out.cell (p := ⟨b, 0, none⟩) hbl).trans (hd 0 (by omega))
          obtain ⟨b1, b2, b3, b4, b5⟩ := BDS.out k hlt (by omega)
          obtain ⟨S', T, e1, e2, e3, s0, s9⟩ := STP.out k hlt
          obtain rfl : S' = S := e1.symm.trans HS.out
          have E2' := Lib.hid e2
          have E3 := Lib.hid e3
          have hkz : (k : Int) < X.length := by omega
          have h0z : (0 : Int) < X.length := by omega
          have h0n : 0 < X.length := by omega
          clear hd e1 e2 e3
          generalize X[k] = x at *
          generalize X[0] = x0 at *
          have n1 : ¬ x0 < x := by omega
          have n2 : ¬ x < x0 - 1 := by omega
          have d1' : decide (x0 < x) = false := decide_eq_false n1
          have d2' : decide (x < x0 - 1) = false := decide_eq_false n2
          go_wp2_with fail
          go_quiet (fail)
          go_wp2
          go_roundw
          case rel => exact ⟨k + 1, T, by omega, by rw [E3.out], by go_num, E2', Lib.hid (below_n HB2.out _)⟩
          case measure => simp [intOf]; omega
        · obtain rfl : k = X.length := by omega
          have HS2 := Lib.hid (show sumL X = S by have := HS.out; rwa [List.take_of_length_le (Nat.le_refl _)] at this)
          have BF := Lib.hid (K6.out.b.trans (HB2.out.mono K6.out.b.size))
          by_cases hE : E1 = 0
          · have hSc : S = c := HS2.out.symm.trans (EI.out hE)
            subst hE
            subst hSc
            go_wp2
            go_ret
            exact ⟨by simp, BF.out⟩
          · have hEb : (E1 != 0) = true := by simpa using hE
            go_wp2
            go_ret
            exact ⟨rfl, BF.out⟩
end Go.Proofs.Ytcimceepkjpggaa
