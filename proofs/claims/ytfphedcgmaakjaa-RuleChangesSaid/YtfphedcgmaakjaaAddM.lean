/-
  What AddMonths of package rule, and Mod, Floor and AddMonths of its specification, return: contracts, each for all worlds.
-/
import Derived.Test.YtfphedcgmaakjaaMonths
namespace Go.Proofs.Ytfphedcgmaakjaa
open Go.RowKit
attribute [local go_sem] set_drewN
abbrev two (a : Value) (b : Value) : Value := .tuple #[a, b]
theorem bMod_any (n : Int) (w : World) (h0 : 0 ≤ n) (h9 : n ≤ 10000000) : Calls Try.prog 76 #[.int .i64 n, .int .i64 12] w (Ret (.int .i64 (n % 12)) w) := by
  have e : (n % 12 + 12) % 12 = n % 12 := by omega
  rw [← e]
  clear e
  go_enter Try.func76, Try.ntmps76
  go_wp2
  go_ret
  exact ⟨rfl, rfl⟩
theorem bFloor_any (n : Int) (w : World) (h0 : 0 ≤ n) (h9 : n ≤ 10000000) : Calls Try.prog 75 #[.int .i64 n, .int .i64 12] w (Ret (.int .i64 (n / 12)) w) := by
  have e : (n - n % 12) / 12 = n / 12 := by omega
  rw [← e]
  clear e
  have p : 0 ≤ n - n % 12 := by omega
  go_enter Try.func75, Try.ntmps75
  go_wp2_with (go_at_call 76; refine (bMod_any _ _ (by omega) (by omega)).mono ?_; rintro e w' ⟨rfl, rfl⟩)
  go_ret
  exact ⟨rfl, rfl⟩
set_option maxRecDepth 100000 in
set_option maxHeartbeats 1000000 in
theorem xAddMonths_no (n k : Int) (w : World) (h0 : 0 ≤ n) (h9 : n ≤ 1000000) (hk1 : -21000 ≤ k) (hk2 : k ≤ 21000) (hy : inB ((mnum n + k) / 12) 1800 2347 = false) :
    Calls Try.prog 27 #[.int .i64 n, .int .i64 k] w (RetB (two (.int .i64 0) (.bool false)) w) := by
  have bd := Cal.date_bd n h0 h9
  unfold mnum at hy
  have hc := xDateOf_any n w h0 h9
  generalize Cal.yr n = y at *
  generalize Cal.mo n = m at *
  generalize Cal.da n = d at *
  obtain ⟨b1, b2, b3, b4, b5, b6⟩ := bd
  have HC := Lib.hid hc
  clear hc
  go_enter Try.func27, Try.ntmps27
  go_wp2_with (first
    | (go_at_call 24; refine (HC.out).mono ?_; rintro e w1 ⟨rfl, hb1⟩)
    | (go_at_call 75; refine (bFloor_any _ _ (by omega) (by omega)).mono ?_; rintro e w' ⟨rfl, rfl⟩)
    | (go_at_call 76; refine (bMod_any _ _ (by omega) (by omega)).mono ?_; rintro e w' ⟨rfl, rfl⟩)
    | (go_at_call 20; refine (xIsYear_any _ _).mono ?_; rintro e w' ⟨rfl, rfl⟩))
  go_ret2
  exact ⟨rfl, hb1.alloc hb1.size _⟩
set_option maxRecDepth 100000 in
set_option maxHeartbeats 1000000 in
theorem xAddMonths_yes (n k : Int) (w : World) (h0 : 0 ≤ n) (h9 : n ≤ 1000000) (hk1 : -21000 ≤ k) (hk2 : k ≤ 21000) (hy : inB ((mnum n + k) / 12) 1800 2347 = true) :
    Calls Try.prog 27 #[.int .i64 n, .int .i64 k] w (RetB (two (.int .i64 (mlt n k)) (.bool (inB (mlt n k) 0 200000))) w) := by
  have bd := Cal.date_bd n h0 h9
  have hc := xDateOf_any n w h0 h9
  obtain ⟨r, hr0⟩ : ∃ r, mlt n k = r := ⟨_, rfl⟩
  rw [hr0]
  have hr : Cal.num ((mnum n + k) / 12) ((mnum n + k) % 12 + 1) (min (Cal.da n) (Cal.md ((mnum n + k) / 12) ((mnum n + k) % 12 + 1))) = r := hr0
  clear hr0
  unfold mnum at hy hr
  generalize Cal.yr n = y at *
  generalize Cal.mo n = m at *
  generalize Cal.da n = d at *
  obtain ⟨b1, b2, b3, b4, b5, b6⟩ := bd
  have HC := Lib.hid hc
  clear hc
  obtain ⟨t, ht⟩ : ∃ t : Int, (if Cal.md ((y * 12 + m - 1 + k) / 12) ((y * 12 + m - 1 + k) % 12 + 1) < d then Cal.md ((y * 12 + m - 1 + k) / 12) ((y * 12 + m - 1 + k) % 12 + 1) else d) = t := ⟨_, rfl⟩
  have hmin : min d (Cal.md ((y * 12 + m - 1 + k) / 12) ((y * 12 + m - 1 + k) % 12 + 1)) = t := by rw [← ht]; split <;> omega
  have mb := Cal.md_bd ((y * 12 + m - 1 + k) / 12) ((y * 12 + m - 1 + k) % 12 + 1)
  have tb : 1 ≤ t ∧ t ≤ 31 := by rw [← ht]; split <;> omega
  rw [hmin] at hr
  obtain ⟨yb1, yb2⟩ := inB_iff.1 hy
  have nb := ny_bd2 ((y * 12 + m - 1 + k) / 12) (by omega) (by omega)
  have cb := Cal.cum_bd ((y * 12 + m - 1 + k) / 12) ((y * 12 + m - 1 + k) % 12 + 1) (by omega) (by omega)
  have HR := Lib.hid hr
  have HT := Lib.hid ht
  clear ht hmin hr
  go_enter Try.func27, Try.ntmps27
  go_wp2_with (first
    | (go_at_call 24; refine (HC.out).mono ?_; rintro e w1 ⟨rfl, hb1⟩)
    | (go_at_call 75; refine (bFloor_any _ _ (by omega) (by omega)).mono ?_; rintro e w' ⟨rfl, rfl⟩)
    | (go_at_call 76; refine (bMod_any _ _ (by omega) (by omega)).mono ?_; rintro e w' ⟨rfl, rfl⟩)
    | (go_at_call 20; refine (xIsYear_any _ _).mono ?_; rintro e w' ⟨rfl, rfl⟩))
  refine wp_region_still_tail 9 (by kernel_rfl) (by kernel_rfl) ?_
  simp only [List.take_succ_cons, List.take_zero, List.drop_succ_cons, List.drop_zero]
  change wpStill _ _ (World.drewN _ 1) (fun a' => wpList _ _ _ _ a' (World.drewN _ 1)) _ _
  still_step
  still_step
  still_call (same_n (First_any _ _ _ (by omega) (by omega) (by omega) (by omega)))
  still_step
  still_step
  still_step
  still_step
  still_call (same_n (xMonthDays_any _ _ _ (by omega) (by omega) (by omega) (by omega)))
  still_step
  rw [HT.out]
  refine wpStill_nil ?_
  go_wp2_with (go_at_call 23; refine (xIsDay_any _ _).mono ?_; rintro e w' ⟨rfl, rfl⟩)
  go_ret2
  refine ⟨?_, below_n (hb1.alloc hb1.size _) 1⟩
  rw [← HR.out]
  rfl
end Go.Proofs.Ytfphedcgmaakjaa
