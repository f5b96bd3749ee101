/-
  What Plan of package money returns where it refuses; the examples of the statements over the chapters (instalments).
-/
import Derived.Test.YtcimceepkjpggaaMnN
namespace Go.Proofs.Ytcimceepkjpggaa
open Go.RowKit
attribute [local go_sem] set_drewN
theorem plan_b1 (c n d0 d1 : Int) (w : World) (h : (inB c 0 1000000000000 && inB n 1 120) = false) : Calls Try.prog 31 #[.int .i64 c, .int .i64 n, .agg #[.int .i64 d0, .int .i64 d1]] w (RetB (two (.slice none 0 0) (.int .i64 2)) w) := by
  go_enter Try.func31, Try.ntmps31
  go_wp2_with (go_at_call 30; refine (Instalments_bad c n _ h).mono ?_; rintro e w1 ⟨rfl, rfl⟩)
  go_ret2
  exact ⟨rfl, (Below.refl _ _).alloc (Nat.le_refl _) _⟩
set_option maxRecDepth 100000 in
theorem plan_b2 (c : Int) (n : Nat) (d0 d1 : Int) (w : World) (h0 : 0 ≤ c) (h9 : c ≤ 1000000000000) (n1 : 1 ≤ n) (n9 : n ≤ 120) (i1 : inB d0 0 200000 = false) :
    Calls Try.prog 31 #[.int .i64 c, .int .i64 n, .agg #[.int .i64 d0, .int .i64 d1]] w (RetB (two (.slice none 0 0) (.int .i64 2)) w) := by
  have HB := Lib.hid (fun W (h : W = w.alloc (.cells #[.int .i64 d0, .int .i64 d1] 56)) => (show W.cell? ⟨w.heap.size, 0, none⟩ = some (.int .i64 d0) ∧ W.cell? ⟨w.heap.size, 1, none⟩ = some (.int .i64 d1) ∧ Below w.heap.size w W ∧ W.heap.size = w.heap.size + 1 from by
    subst h
    exact ⟨by simp [go_sem], by simp [go_sem], (Below.refl _ _).alloc (Nat.le_refl _) _, by simp⟩))
  go_enter Try.func31, Try.ntmps31
  go_wp2_with fail
  refine (Instalments_ok c n _ h0 h9 n1 n9).mono ?_
  rintro e w1 ⟨v1, rfl, hI⟩
  have B1 := Lib.hid ((HB.out _ rfl).2.2.1.trans (hI.out.2.mono (by simp)))
  have q0 := (hI.out.2.cell (p := ⟨w.heap.size, 0, none⟩) (by simp)).trans (HB.out _ rfl).1
  have q1 := (hI.out.2.cell (p := ⟨w.heap.size, 1, none⟩) (by simp)).trans (HB.out _ rfl).2.1
  have s1' := B1.out.size
  clear hI HB
  go_wp2
  go_quiet (fail)
  obtain ⟨wq, hwq⟩ : ∃ wq, w1.drewN nq = wq := ⟨_, rfl⟩
  have BQ := Lib.hid (show Below w.heap.size w wq by rw [← hwq]; exact below_n B1.out _)
  rw [hwq]
  clear hwq q0 q1 B1
  go_wp2_with (first
    | (go_at_call 54; refine (nIsDay_any _ _).mono ?_; rintro e w' ⟨rfl, rfl⟩; rw [i1])
    | (go_at_call 60; refine (nIsFromTo_any _ _ _ _).mono ?_; rintro e w' ⟨rfl, rfl⟩; fail))
  go_ret2
  exact ⟨rfl, BQ.out⟩
set_option maxRecDepth 100000 in
theorem plan_b3 (c : Int) (n : Nat) (d0 d1 : Int) (w : World) (h0 : 0 ≤ c) (h9 : c ≤ 1000000000000) (n1 : 1 ≤ n) (n9 : n ≤ 120) (i1 : inB d0 0 200000 = true) (i2 : inB d1 1 1000 = false) :
    Calls Try.prog 31 #[.int .i64 c, .int .i64 n, .agg #[.int .i64 d0, .int .i64 d1]] w (RetB (two (.slice none 0 0) (.int .i64 2)) w) := by
  have HB := Lib.hid (fun W (h : W = w.alloc (.cells #[.int .i64 d0, .int .i64 d1] 56)) => (show W.cell? ⟨w.heap.size, 0, none⟩ = some (.int .i64 d0) ∧ W.cell? ⟨w.heap.size, 1, none⟩ = some (.int .i64 d1) ∧ Below w.heap.size w W ∧ W.heap.size = w.heap.size + 1 from by
    subst h
    exact ⟨by simp [go_sem], by simp [go_sem], (Below.refl _ _).alloc (Nat.le_refl _) _, by simp⟩))
  go_enter Try.func31, Try.ntmps31
  go_wp2_with fail
  refine (Instalments_ok c n _ h0 h9 n1 n9).mono ?_
  rintro e w1 ⟨v1, rfl, hI⟩
  have B1 := Lib.hid ((HB.out _ rfl).2.2.1.trans (hI.out.2.mono (by simp)))
  have q0 := (hI.out.2.cell (p := ⟨w.heap.size, 0, none⟩) (by simp)).trans (HB.out _ rfl).1
  have q1 := (hI.out.2.cell (p := ⟨w.heap.size, 1, none⟩) (by simp)).trans (HB.out _ rfl).2.1
  have s1' := B1.out.size
  clear hI HB
  go_wp2
  go_quiet (fail)
  obtain ⟨wq, hwq⟩ : ∃ wq, w1.drewN nq = wq := ⟨_, rfl⟩
  have BQ := Lib.hid (show Below w.heap.size w wq by rw [← hwq]; exact below_n B1.out _)
  rw [hwq]
  clear hwq q0 q1 B1
  go_wp2_with (first
    | (go_at_call 54; refine (nIsDay_any _ _).mono ?_; rintro e w' ⟨rfl, rfl⟩; rw [i1])
    | (go_at_call 60; refine (nIsFromTo_any _ _ _ _).mono ?_; rintro e w' ⟨rfl, rfl⟩; rw [i2]))
  go_ret2
  exact ⟨rfl, BQ.out⟩
set_option maxRecDepth 100000 in
theorem plan_b4 (c : Int) (n : Nat) (d0 d1 : Int) (w : World) (h0 : 0 ≤ c) (h9 : c ≤ 1000000000000) (n1 : 1 ≤ n) (n9 : n ≤ 120) (i1 : inB d0 0 200000 = true) (i2 : inB d1 1 1000 = true) (i3 : inB (d0 + ((n : Int) - 1) * d1) 0 200000 = false) :
    Calls Try.prog 31 #[.int .i64 c, .int .i64 n, .agg #[.int .i64 d0, .int .i64 d1]] w (RetB (two (.slice none 0 0) (.int .i64 2)) w) := by
  have HB := Lib.hid (fun W (h : W = w.alloc (.cells #[.int .i64 d0, .int .i64 d1] 56)) => (show W.cell? ⟨w.heap.size, 0, none⟩ = some (.int .i64 d0) ∧ W.cell? ⟨w.heap.size, 1, none⟩ = some (.int .i64 d1) ∧ Below w.heap.size w W ∧ W.heap.size = w.heap.size + 1 from by
    subst h
    exact ⟨by simp [go_sem], by simp [go_sem], (Below.refl _ _).alloc (Nat.le_refl _) _, by simp⟩))
  have ⟨d1a, d1b⟩ := inB_iff.1 i2
  have ⟨d0a, d0b⟩ := inB_iff.1 i1
  have m0 : 0 ≤ ((n : Int) - 1) * d1 := Int.mul_nonneg (by omega) (by omega)
  have m9 : ((n : Int) - 1) * d1 ≤ 200000 := by
    have h1 := Int.mul_le_mul_of_nonneg_right (show (n : Int) - 1 ≤ 119 by omega) (show 0 ≤ d1 by omega)
    omega
  go_enter Try.func31, Try.ntmps31
  go_wp2_with fail
  refine (Instalments_ok c n _ h0 h9 n1 n9).mono ?_
  rintro e w1 ⟨v1, rfl, hI⟩
  have B1 := Lib.hid ((HB.out _ rfl).2.2.1.trans (hI.out.2.mono (by simp)))
  have q0 := (hI.out.2.cell (p := ⟨w.heap.size, 0, none⟩) (by simp)).trans (HB.out _ rfl).1
  have q1 := (hI.out.2.cell (p := ⟨w.heap.size, 1, none⟩) (by simp)).trans (HB.out _ rfl).2.1
  have s1' := B1.out.size
  clear hI HB
  go_wp2
  go_quiet (fail)
  obtain ⟨wq, hwq⟩ : ∃ wq, w1.drewN nq = wq := ⟨_, rfl⟩
  have BQ := Lib.hid (show Below w.heap.size w wq by rw [← hwq]; exact below_n B1.out _)
  rw [hwq]
  clear hwq q0 q1 B1
  go_wp2_with (first
    | (go_at_call 54; refine (nIsDay_any _ _).mono ?_; rintro e w' ⟨rfl, rfl⟩; first | rw [i1] | rw [i3])
    | (go_at_call 60; refine (nIsFromTo_any _ _ _ _).mono ?_; rintro e w' ⟨rfl, rfl⟩; rw [i2]))
  go_ret2
  exact ⟨rfl, BQ.out⟩
theorem Plan_bad (c n d0 d1 : Int) (w : World) (h : planB c n d0 d1 = false) : Calls Try.prog 31 #[.int .i64 c, .int .i64 n, .agg #[.int .i64 d0, .int .i64 d1]] w (RetB (two (.slice none 0 0) (.int .i64 2)) w) := by
  cases hc : (inB c 0 1000000000000 && inB n 1 120)
  · exact plan_b1 c n d0 d1 w hc
  · have hc' := Bool.and_eq_true_iff.1 hc
    obtain ⟨h0, h9⟩ := inB_iff.1 hc'.1
    obtain ⟨n1, n9⟩ := inB_iff.1 hc'.2
    obtain ⟨m, rfl⟩ : ∃ m : Nat, n = m := ⟨n.toNat, by omega⟩
    unfold planB at h
    rw [hc, Bool.true_and] at h
    cases i1 : inB d0 0 200000
    · exact plan_b2 c m d0 d1 w h0 h9 (by omega) (by omega) i1
    · cases i2 : inB d1 1 1000
      · exact plan_b3 c m d0 d1 w h0 h9 (by omega) (by omega) i1 i2
      · rw [i1, i2] at h
        exact plan_b4 c m d0 d1 w h0 h9 (by omega) (by omega) i1 i2 (by simpa using h)
theorem Plan_good (c n d0 d1 : Int) (w : World) (h : planB c n d0 d1 = true) : Calls Try.prog 31 #[.int .i64 c, .int .i64 n, .agg #[.int .i64 d0, .int .i64 d1]] w fun e w' => ∃ (m : Nat) (D : List Du) (v : Value), n = m ∧ 1 ≤ m ∧ m ≤ 120 ∧ D = plM c m d0 d1 m ∧ PlanIs c m d0 d1 D ∧ e = .returned (two v (.int .i64 0)) ∧ Hid (DRow w w' D v) := by
  unfold planB at h
  have h1 := Bool.and_eq_true_iff.1 h
  have h2 := Bool.and_eq_true_iff.1 h1.1
  have h3 := Bool.and_eq_true_iff.1 h1.2
  have h4 := Bool.and_eq_true_iff.1 h3.1
  obtain ⟨c0, c9⟩ := inB_iff.1 h2.1
  obtain ⟨n1, n9⟩ := inB_iff.1 h2.2
  obtain ⟨a0, a9⟩ := inB_iff.1 h4.1
  obtain ⟨s1, s9⟩ := inB_iff.1 h4.2
  obtain ⟨_, l9⟩ := inB_iff.1 h3.2
  obtain ⟨m, rfl⟩ : ∃ m : Nat, n = m := ⟨n.toNat, by omega⟩
  refine (Plan_ok c m d0 d1 w c0 c9 (by omega) (by omega) a0 a9 s1 s9 l9).mono ?_
  rintro e w' ⟨v, he, hD⟩
  exact ⟨m, _, v, rfl, by omega, by omega, rfl, plan_is c0 c9 (by omega) (by omega) a0 s1 l9, he, hD⟩
theorem lit3 (w : World) (a b c : Int) (t : TypeId) : LI (w.alloc (.cells #[.int .i64 a, .int .i64 b, .int .i64 c] t)) (.slice (some ⟨w.heap.size, 0, none⟩) 3 3) [a, b, c] := by
  refine ⟨_, 3, rfl, fun _ => ⟨w.heap.size, rfl, by simp, fun i hi => ?_⟩⟩
  have : i = 0 ∨ i = 1 ∨ i = 2 := by simp at hi; omega
  rcases this with rfl | rfl | rfl <;> simp [go_sem]
theorem paid_any (w : World) : Calls Try.prog 48 #[] w (RetB (.bool true) w) := by
  have H := Lib.hid (show psM 100 3 3 = [34, 33, 33] by decide)
  go_enter Try.func48, Try.ntmps48
  go_wp2_with fail
  refine (Instalments_ok 100 3 _ (by omega) (by omega) (by omega) (by omega)).mono ?_
  rintro e w1 ⟨v1, rfl, hI⟩
  have L1 := Lib.hid (show LI w1 v1 [34, 33, 33] by have := hI.out.LI; rw [show ((3 : Nat) : Int) = 3 from rfl, H.out] at this; exact this)
  have B1 := Lib.hid hI.out.2
  clear hI
  go_wp2_with (go_at_call 33; refine (ints_eq (L1.out.below ((Below.refl _ _).alloc (Nat.le_refl _) _)) (lit3 w1 34 33 33 3) (by simp)).mono ?_; rintro e w2 ⟨rfl, hb2⟩; have B2 := Lib.hid hb2; clear hb2)
  go_ret
  exact ⟨rfl, (B1.out.alloc B1.out.size _).trans (B2.out.mono (Nat.le_trans B1.out.size (by simp)))⟩
end Go.Proofs.Ytcimceepkjpggaa
