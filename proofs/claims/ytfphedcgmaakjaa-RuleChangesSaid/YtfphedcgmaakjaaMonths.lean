/-
  What monthNumber, monthsLater and AddMonths of package rule, and AddMonths of its specification, return: contracts, each for all worlds.
-/
import Derived.Test.YtfphedcgmaakjaaRefDate
import Derived.Test.YtfphedcgmaakjaaChecks
namespace Go.Proofs.Ytfphedcgmaakjaa
open Go.RowKit
attribute [local go_sem] set_drewN
theorem monthNumber_any (y m d : Int) (w : World) (h0 : 0 ≤ y) (h9 : y ≤ 10000) (h1 : 0 ≤ m) (h12 : m ≤ 100) :
    Calls Try.prog 77 #[.agg #[.int .i64 y, .int .i64 m, .int .i64 d]] w (RetB (.int .i64 (y * 12 + m - 1)) w) := by
  go_enter Try.func77, Try.ntmps77
  go_wp2
  go_ret
  exact ⟨rfl, (Below.refl _ _).alloc (Nat.le_refl _) _⟩
/-- a month counted over the years -/
noncomputable def mnum (n : Int) : Int := Cal.yr n * 12 + Cal.mo n - 1
theorem mnum_bd (n : Int) (h : 0 ≤ n) (h2 : n ≤ 1000000) : 21600 ≤ mnum n ∧ mnum n ≤ 60000 := by have := Cal.date_bd n h h2; unfold mnum; omega
/-- the day so many months later -/
noncomputable def mlt (n k : Int) : Int := Cal.lt (mnum n + k) (Cal.da n)
set_option maxRecDepth 100000 in
set_option maxHeartbeats 1000000 in
theorem monthsLater_any (n k : Int) (w : World) (h0 : 0 ≤ n) (h9 : n ≤ 1000000) (hk1 : -21000 ≤ k) (hk2 : k ≤ 21000) :
    Calls Try.prog 74 #[.int .i64 n, .int .i64 k] w (RetB (.int .i64 (mlt n k)) w) := by
  have bd := Cal.date_bd n h0 h9
  obtain ⟨y, hy⟩ : ∃ y, y = Cal.yr n := ⟨_, rfl⟩
  obtain ⟨m, hm⟩ : ∃ m, m = Cal.mo n := ⟨_, rfl⟩
  obtain ⟨d, hd⟩ : ∃ d, d = Cal.da n := ⟨_, rfl⟩
  have hc := dateOf_any n w h0 h9
  have hr : mlt n k = Cal.num ((y * 12 + m - 1 + k) / 12) ((y * 12 + m - 1 + k) % 12 + 1) (min d (Cal.md ((y * 12 + m - 1 + k) / 12) ((y * 12 + m - 1 + k) % 12 + 1))) := by subst hy hm hd; rfl
  rw [← hy, ← hm, ← hd] at bd hc
  rw [hr]
  clear hy hm hd hr
  obtain ⟨b1, b2, b3, b4, b5, b6⟩ := bd
  have HC := Lib.hid hc
  clear hc
  obtain ⟨t, ht⟩ : ∃ t : Int, (if Cal.md ((y * 12 + m - 1 + k) / 12) ((y * 12 + m - 1 + k) % 12 + 1) < d then Cal.md ((y * 12 + m - 1 + k) / 12) ((y * 12 + m - 1 + k) % 12 + 1) else d) = t := ⟨_, rfl⟩
  have hmin : min d (Cal.md ((y * 12 + m - 1 + k) / 12) ((y * 12 + m - 1 + k) % 12 + 1)) = t := by rw [← ht]; split <;> omega
  rw [hmin]
  have mb := Cal.md_bd ((y * 12 + m - 1 + k) / 12) ((y * 12 + m - 1 + k) % 12 + 1)
  have tb : 1 ≤ t ∧ t ≤ 31 := by rw [← ht]; split <;> omega
  have HT := Lib.hid ht
  clear ht hmin
  go_enter Try.func74, Try.ntmps74
  go_wp2_with (first
    | (go_at_call 70; refine (HC.out).mono ?_; rintro e w1 ⟨rfl, hb1⟩)
    | (go_at_call 77; refine (monthNumber_any _ _ _ _ (by omega) (by omega) (by omega) (by omega)).mono ?_; rintro e w2 ⟨rfl, hb2⟩))
  have hcd : w2.cell? ⟨w1.heap.size, 2, none⟩ = some (.int .i64 d) := by rw [hb2.cell (by simp)]; simp [go_sem]
  refine wp_region_still_tail 9 (by kernel_rfl) (by kernel_rfl) ?_
  simp only [List.take_succ_cons, List.take_zero, List.drop_succ_cons, List.drop_zero]
  change wpStill _ _ (World.drewN _ 1) (fun a' => wpList _ _ _ _ a' (World.drewN _ 1)) _ _
  still_step
  still_step
  still_step
  still_step
  still_step
  still_step
  still_call (same_n (monthDays_any _ _ _ (by omega) (by omega)))
  still_step
  rw [HT.out]
  still_step
  refine wpStill_nil ?_
  go_wp2_with (go_at_call 67; refine (dayOf_any _ _ _ _ (by omega) (by omega) (by omega) (by omega) (by omega) (by omega)).mono ?_; rintro e w3 ⟨rfl, hb3⟩)
  go_ret
  exact ⟨rfl, (((hb1.alloc hb1.size _).trans (hb2.mono (by have := hb1.size; simp; omega))).trans ((below_n (Below.refl _ _) 1).mono (Nat.le_refl _))).trans (hb3.mono (by have := hb1.size; have := hb2.size; simp at *; omega))⟩
end Go.Proofs.Ytfphedcgmaakjaa
