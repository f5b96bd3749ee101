/-
  What the functions on years and months of package rule and of its specification return, for years from 1 to 10000: contracts, each for all worlds.
-/
import Derived.Test.YtfphedcgmaakjaaNums
namespace Go.Proofs.Ytfphedcgmaakjaa
open Go.RowKit
theorem leap_1 {y : Int} (h : (y % 4 == 0) = false) (h3 : (y % 400 == 0) = false) : Cal.leap y = false := by simp [Cal.leap, h, h3]
theorem leap_2 {y : Int} (h1 : (y % 4 == 0) = true) (h2 : (y % 100 == 0) = false) : Cal.leap y = true := by
  have : (y % 100 != 0) = true := by simpa using h2
  simp [Cal.leap, h1, this]
theorem leap_3 {y : Int} (h3 : (y % 400 == 0) = true) : Cal.leap y = true := by simp [Cal.leap, h3]
theorem leap_4 {y : Int} (h2 : (y % 100 == 0) = true) (h3 : (y % 400 == 0) = false) : Cal.leap y = false := by
  have : (y % 100 != 0) = false := by simpa using h2
  simp [Cal.leap, h3, this]
theorem isLeap_any (y : Int) (w : World) (h0 : 0 ≤ y) (h9 : y ≤ 10000) : Calls Try.prog 96 #[.int .i64 y] w (Ret (.bool (Cal.leap y)) w) := by
  cases h1 : (y % 4 == 0)
  · have h3 : (y % 400 == 0) = false := by simp at h1 ⊢; omega
    rw [leap_1 h1 h3]
    go_enter Try.func96, Try.ntmps96
    go_wp2
    go_ret
    exact ⟨rfl, rfl⟩
  · cases h2 : (y % 100 == 0)
    · rw [leap_2 h1 h2]
      have h2' : (y % 100 != 0) = true := by simpa using h2
      go_enter Try.func96, Try.ntmps96
      go_wp2
      go_ret
      exact ⟨rfl, rfl⟩
    · have h2' : (y % 100 != 0) = false := by simpa using h2
      cases h3 : (y % 400 == 0)
      · rw [leap_4 h2 h3]
        go_enter Try.func96, Try.ntmps96
        go_wp2
        go_ret
        exact ⟨rfl, rfl⟩
      · rw [leap_3 h3]
        go_enter Try.func96, Try.ntmps96
        go_wp2
        go_ret
        exact ⟨rfl, rfl⟩
theorem xLeap_any (y : Int) (w : World) (h0 : 0 ≤ y) (h9 : y ≤ 10000) : Calls Try.prog 73 #[.int .i64 y] w (Ret (.bool (Cal.leap y)) w) := by
  cases h1 : (y % 4 == 0)
  · have h3 : (y % 400 == 0) = false := by simp at h1 ⊢; omega
    rw [leap_1 h1 h3]
    go_enter Try.func73, Try.ntmps73
    go_wp2
    go_ret
    exact ⟨rfl, rfl⟩
  · cases h2 : (y % 100 == 0)
    · rw [leap_2 h1 h2]
      have h2' : (y % 100 != 0) = true := by simpa using h2
      go_enter Try.func73, Try.ntmps73
      go_wp2
      go_ret
      exact ⟨rfl, rfl⟩
    · have h2' : (y % 100 != 0) = false := by simpa using h2
      cases h3 : (y % 400 == 0)
      · rw [leap_4 h2 h3]
        go_enter Try.func73, Try.ntmps73
        go_wp2
        go_ret
        exact ⟨rfl, rfl⟩
      · rw [leap_3 h3]
        go_enter Try.func73, Try.ntmps73
        go_wp2
        go_ret
        exact ⟨rfl, rfl⟩
theorem md_2 {y : Int} (h : Cal.leap y = true) : Cal.md y 2 = 29 := by simp [Cal.md, Cal.lp, h]
theorem md_2' {y : Int} (h : Cal.leap y = false) : Cal.md y 2 = 28 := by simp [Cal.md, Cal.lp, h]
theorem md_n {y m : Int} (h : m = 4 ∨ m = 6 ∨ m = 9 ∨ m = 11) : Cal.md y m = 30 := by unfold Cal.md; rw [if_neg (by omega), if_pos h]
theorem md_o {y m : Int} (h2 : m ≠ 2) (h : ¬ (m = 4 ∨ m = 6 ∨ m = 9 ∨ m = 11)) : Cal.md y m = 31 := by unfold Cal.md; rw [if_neg h2, if_neg h]
theorem eqf {m k : Int} (h : m ≠ k) : (m == k) = false := by simpa using h
/-- for every month, of numbers that are none, too -/
theorem monthDays_any (y m : Int) (w : World) (h0 : 0 ≤ y) (h9 : y ≤ 10000) : Calls Try.prog 66 #[.int .i64 y, .int .i64 m] w (Ret (.int .i64 (Cal.md y m)) w) := by
  by_cases h2 : m = 2
  · subst h2
    cases hl : Cal.leap y
    · rw [md_2' hl]
      go_enter Try.func66, Try.ntmps66
      go_wp2_with (go_at_call 96; refine (isLeap_any _ _ (by omega) (by omega)).mono ?_; rintro e w' ⟨rfl, rfl⟩)
      go_ret
      exact ⟨rfl, rfl⟩
    · rw [md_2 hl]
      go_enter Try.func66, Try.ntmps66
      go_wp2_with (go_at_call 96; refine (isLeap_any _ _ (by omega) (by omega)).mono ?_; rintro e w' ⟨rfl, rfl⟩)
      go_ret
      exact ⟨rfl, rfl⟩
  · have e2 := eqf h2
    by_cases h : m = 4 ∨ m = 6 ∨ m = 9 ∨ m = 11
    · rw [md_n h]
      rcases h with rfl | rfl | rfl | rfl
      all_goals
        clear e2 h2
        go_enter Try.func66, Try.ntmps66
        go_wp2
        go_ret
        exact ⟨rfl, rfl⟩
    · rw [md_o h2 h]
      have e4 := eqf (m := m) (k := 4) (by omega)
      have e6 := eqf (m := m) (k := 6) (by omega)
      have e9 := eqf (m := m) (k := 9) (by omega)
      have e11 := eqf (m := m) (k := 11) (by omega)
      clear h h2
      go_enter Try.func66, Try.ntmps66
      go_wp2
      go_ret
      exact ⟨rfl, rfl⟩
set_option maxRecDepth 100000 in
set_option maxHeartbeats 400000 in
theorem xmd_1 (y : Int) (w : World) : Calls Try.prog 22 #[.int .i64 y, .int .i64 1] w (Ret (.int .i64 (Cal.md y 1)) w) := by
  rw [md_o (by omega) (by omega)]
  have x : ∀ w : World, (Instr.index 96 (.agg #[.int .i64 0, .int .i64 31, .int .i64 28, .int .i64 31, .int .i64 30, .int .i64 31, .int .i64 30, .int .i64 31, .int .i64 31, .int .i64 30, .int .i64 31, .int .i64 30, .int .i64 31]) (.int .i64 1)).run Try.prog w = .ok (.int .i64 31) w := fun _ => by kernel_rfl
  go_enter Try.func22, Try.ntmps22
  go_wp2
  go_ret
  exact ⟨rfl, rfl⟩
set_option maxRecDepth 100000 in
set_option maxHeartbeats 400000 in
theorem xmd_2_true (y : Int) (w : World) (h0 : 0 ≤ y) (h9 : y ≤ 10000) (hl : Cal.leap y = true) : Calls Try.prog 22 #[.int .i64 y, .int .i64 2] w (Ret (.int .i64 (Cal.md y 2)) w) := by
  rw [md_2 hl]
  go_enter Try.func22, Try.ntmps22
  go_wp2_with (go_at_call 73; refine (xLeap_any _ _ (by omega) (by omega)).mono ?_; rintro e w' ⟨rfl, rfl⟩)
  go_ret
  exact ⟨rfl, rfl⟩
set_option maxRecDepth 100000 in
set_option maxHeartbeats 400000 in
theorem xmd_2_false (y : Int) (w : World) (h0 : 0 ≤ y) (h9 : y ≤ 10000) (hl : Cal.leap y = false) : Calls Try.prog 22 #[.int .i64 y, .int .i64 2] w (Ret (.int .i64 (Cal.md y 2)) w) := by
  rw [md_2' hl]
  have x : ∀ w : World, (Instr.index 96 (.agg #[.int .i64 0, .int .i64 31, .int .i64 28, .int .i64 31, .int .i64 30, .int .i64 31, .int .i64 30, .int .i64 31, .int .i64 31, .int .i64 30, .int .i64 31, .int .i64 30, .int .i64 31]) (.int .i64 2)).run Try.prog w = .ok (.int .i64 28) w := fun _ => by kernel_rfl
  go_enter Try.func22, Try.ntmps22
  go_wp2_with (go_at_call 73; refine (xLeap_any _ _ (by omega) (by omega)).mono ?_; rintro e w' ⟨rfl, rfl⟩)
  go_ret
  exact ⟨rfl, rfl⟩
set_option maxRecDepth 100000 in
set_option maxHeartbeats 400000 in
theorem xmd_3 (y : Int) (w : World) : Calls Try.prog 22 #[.int .i64 y, .int .i64 3] w (Ret (.int .i64 (Cal.md y 3)) w) := by
  rw [md_o (by omega) (by omega)]
  have x : ∀ w : World, (Instr.index 96 (.agg #[.int .i64 0, .int .i64 31, .int .i64 28, .int .i64 31, .int .i64 30, .int .i64 31, .int .i64 30, .int .i64 31, .int .i64 31, .int .i64 30, .int .i64 31, .int .i64 30, .int .i64 31]) (.int .i64 3)).run Try.prog w = .ok (.int .i64 31) w := fun _ => by kernel_rfl
  go_enter Try.func22, Try.ntmps22
  go_wp2
  go_ret
  exact ⟨rfl, rfl⟩
set_option maxRecDepth 100000 in
set_option maxHeartbeats 400000 in
theorem xmd_4 (y : Int) (w : World) : Calls Try.prog 22 #[.int .i64 y, .int .i64 4] w (Ret (.int .i64 (Cal.md y 4)) w) := by
  rw [md_n (by omega)]
  have x : ∀ w : World, (Instr.index 96 (.agg #[.int .i64 0, .int .i64 31, .int .i64 28, .int .i64 31, .int .i64 30, .int .i64 31, .int .i64 30, .int .i64 31, .int .i64 31, .int .i64 30, .int .i64 31, .int .i64 30, .int .i64 31]) (.int .i64 4)).run Try.prog w = .ok (.int .i64 30) w := fun _ => by kernel_rfl
  go_enter Try.func22, Try.ntmps22
  go_wp2
  go_ret
  exact ⟨rfl, rfl⟩
set_option maxRecDepth 100000 in
set_option maxHeartbeats 400000 in
theorem xmd_5 (y : Int) (w : World) : Calls Try.prog 22 #[.int .i64 y, .int .i64 5] w (Ret (.int .i64 (Cal.md y 5)) w) := by
  rw [md_o (by omega) (by omega)]
  have x : ∀ w : World, (Instr.index 96 (.agg #[.int .i64 0, .int .i64 31, .int .i64 28, .int .i64 31, .int .i64 30, .int .i64 31, .int .i64 30, .int .i64 31, .int .i64 31, .int .i64 30, .int .i64 31, .int .i64 30, .int .i64 31]) (.int .i64 5)).run Try.prog w = .ok (.int .i64 31) w := fun _ => by kernel_rfl
  go_enter Try.func22, Try.ntmps22
  go_wp2
  go_ret
  exact ⟨rfl, rfl⟩
set_option maxRecDepth 100000 in
set_option maxHeartbeats 400000 in
theorem xmd_6 (y : Int) (w : World) : Calls Try.prog 22 #[.int .i64 y, .int .i64 6] w (Ret (.int .i64 (Cal.md y 6)) w) := by
  rw [md_n (by omega)]
  have x : ∀ w : World, (Instr.index 96 (.agg #[.int .i64 0, .int .i64 31, .int .i64 28, .int .i64 31, .int .i64 30, .int .i64 31, .int .i64 30, .int .i64 31, .int .i64 31, .int .i64 30, .int .i64 31, .int .i64 30, .int .i64 31]) (.int .i64 6)).run Try.prog w = .ok (.int .i64 30) w := fun _ => by kernel_rfl
  go_enter Try.func22, Try.ntmps22
  go_wp2
  go_ret
  exact ⟨rfl, rfl⟩
set_option maxRecDepth 100000 in
set_option maxHeartbeats 400000 in
theorem xmd_7 (y : Int) (w : World) : Calls Try.prog 22 #[.int .i64 y, .int .i64 7] w (Ret (.int .i64 (Cal.md y 7)) w) := by
  rw [md_o (by omega) (by omega)]
  have x : ∀ w : World, (Instr.index 96 (.agg #[.int .i64 0, .int .i64 31, .int .i64 28, .int .i64 31, .int .i64 30, .int .i64 31, .int .i64 30, .int .i64 31, .int .i64 31, .int .i64 30, .int .i64 31, .int .i64 30, .int .i64 31]) (.int .i64 7)).run Try.prog w = .ok (.int .i64 31) w := fun _ => by kernel_rfl
  go_enter Try.func22, Try.ntmps22
  go_wp2
  go_ret
  exact ⟨rfl, rfl⟩
set_option maxRecDepth 100000 in
set_option maxHeartbeats 400000 in
theorem xmd_8 (y : Int) (w : World) : Calls Try.prog 22 #[.int .i64 y, .int .i64 8] w (Ret (.int .i64 (Cal.md y 8)) w) := by
  rw [md_o (by omega) (by omega)]
  have x : ∀ w : World, (Instr.index 96 (.agg #[.int .i64 0, .int .i64 31, .int .i64 28, .int .i64 31, .int .i64 30, .int .i64 31, .int .i64 30, .int .i64 31, .int .i64 31, .int .i64 30, .int .i64 31, .int .i64 30, .int .i64 31]) (.int .i64 8)).run Try.prog w = .ok (.int .i64 31) w := fun _ => by kernel_rfl
  go_enter Try.func22, Try.ntmps22
  go_wp2
  go_ret
  exact ⟨rfl, rfl⟩
set_option maxRecDepth 100000 in
set_option maxHeartbeats 400000 in
theorem xmd_9 (y : Int) (w : World) : Calls Try.prog 22 #[.int .i64 y, .int .i64 9] w (Ret (.int .i64 (Cal.md y 9)) w) := by
  rw [md_n (by omega)]
  have x : ∀ w : World, (Instr.index 96 (.agg #[.int .i64 0, .int .i64 31, .int .i64 28, .int .i64 31, .int .i64 30, .int .i64 31, .int .i64 30, .int .i64 31, .int .i64 31, .int .i64 30, .int .i64 31, .int .i64 30, .int .i64 31]) (.int .i64 9)).run Try.prog w = .ok (.int .i64 30) w := fun _ => by kernel_rfl
  go_enter Try.func22, Try.ntmps22
  go_wp2
  go_ret
  exact ⟨rfl, rfl⟩
set_option maxRecDepth 100000 in
set_option maxHeartbeats 400000 in
theorem xmd_10 (y : Int) (w : World) : Calls Try.prog 22 #[.int .i64 y, .int .i64 10] w (Ret (.int .i64 (Cal.md y 10)) w) := by
  rw [md_o (by omega) (by omega)]
  have x : ∀ w : World, (Instr.index 96 (.agg #[.int .i64 0, .int .i64 31, .int .i64 28, .int .i64 31, .int .i64 30, .int .i64 31, .int .i64 30, .int .i64 31, .int .i64 31, .int .i64 30, .int .i64 31, .int .i64 30, .int .i64 31]) (.int .i64 10)).run Try.prog w = .ok (.int .i64 31) w := fun _ => by kernel_rfl
  go_enter Try.func22, Try.ntmps22
  go_wp2
  go_ret
  exact ⟨rfl, rfl⟩
set_option maxRecDepth 100000 in
set_option maxHeartbeats 400000 in
theorem xmd_11 (y : Int) (w : World) : Calls Try.prog 22 #[.int .i64 y, .int .i64 11] w (Ret (.int .i64 (Cal.md y 11)) w) := by
  rw [md_n (by omega)]
  have x : ∀ w : World, (Instr.index 96 (.agg #[.int .i64 0, .int .i64 31, .int .i64 28, .int .i64 31, .int .i64 30, .int .i64 31, .int .i64 30, .int .i64 31, .int .i64 31, .int .i64 30, .int .i64 31, .int .i64 30, .int .i64 31]) (.int .i64 11)).run Try.prog w = .ok (.int .i64 30) w := fun _ => by kernel_rfl
  go_enter Try.func22, Try.ntmps22
  go_wp2
  go_ret
  exact ⟨rfl, rfl⟩
set_option maxRecDepth 100000 in
set_option maxHeartbeats 400000 in
theorem xmd_12 (y : Int) (w : World) : Calls Try.prog 22 #[.int .i64 y, .int .i64 12] w (Ret (.int .i64 (Cal.md y 12)) w) := by
  rw [md_o (by omega) (by omega)]
  have x : ∀ w : World, (Instr.index 96 (.agg #[.int .i64 0, .int .i64 31, .int .i64 28, .int .i64 31, .int .i64 30, .int .i64 31, .int .i64 30, .int .i64 31, .int .i64 31, .int .i64 30, .int .i64 31, .int .i64 30, .int .i64 31]) (.int .i64 12)).run Try.prog w = .ok (.int .i64 31) w := fun _ => by kernel_rfl
  go_enter Try.func22, Try.ntmps22
  go_wp2
  go_ret
  exact ⟨rfl, rfl⟩
theorem xMonthDays_any (y m : Int) (w : World) (h0 : 0 ≤ y) (h9 : y ≤ 10000) (h1 : 1 ≤ m) (h12 : m ≤ 12) : Calls Try.prog 22 #[.int .i64 y, .int .i64 m] w (Ret (.int .i64 (Cal.md y m)) w) := by
  have h : m = 1 ∨ m = 2 ∨ m = 3 ∨ m = 4 ∨ m = 5 ∨ m = 6 ∨ m = 7 ∨ m = 8 ∨ m = 9 ∨ m = 10 ∨ m = 11 ∨ m = 12 := by omega
  rcases h with rfl | rfl | rfl | rfl | rfl | rfl | rfl | rfl | rfl | rfl | rfl | rfl
  · exact xmd_1 y w
  · cases hl : Cal.leap y
    · exact xmd_2_false y w h0 h9 hl
    · exact xmd_2_true y w h0 h9 hl
  · exact xmd_3 y w
  · exact xmd_4 y w
  · exact xmd_5 y w
  · exact xmd_6 y w
  · exact xmd_7 y w
  · exact xmd_8 y w
  · exact xmd_9 y w
  · exact xmd_10 y w
  · exact xmd_11 y w
  · exact xmd_12 y w
theorem leapsBefore_any (y : Int) (w : World) (h0 : 1 ≤ y) (h9 : y ≤ 10000) : Calls Try.prog 108 #[.int .i64 y] w (Ret (.int .i64 (Cal.lb y)) w) := by
  go_enter Try.func108, Try.ntmps108
  go_wp2
  go_ret
  exact ⟨rfl, rfl⟩
theorem xLeaps_any (y : Int) (w : World) (h0 : 0 ≤ y) (h9 : y ≤ 10000) : Calls Try.prog 98 #[.int .i64 y] w (Ret (.int .i64 (Cal.lb (y + 1))) w) := by
  have e : Cal.lb (y + 1) = y / 4 - y / 100 + y / 400 := by unfold Cal.lb; rw [show y + 1 - 1 = y from by omega]
  rw [e]
  clear e
  go_enter Try.func98, Try.ntmps98
  go_wp2
  go_ret
  exact ⟨rfl, rfl⟩
theorem lb_bd (y : Int) (h0 : 1 ≤ y) (h9 : y ≤ 10001) : 0 ≤ Cal.lb y ∧ Cal.lb y ≤ 3000 := by unfold Cal.lb; omega
theorem ret_i {a b : Int} (h : a = b) : Ending.returned (.int .i64 a) = .returned (.int .i64 b) := by rw [h]
theorem newYear_any (y : Int) (w : World) (h0 : 1 ≤ y) (h9 : y ≤ 10000) : Calls Try.prog 97 #[.int .i64 y] w (Ret (.int .i64 (Cal.ny y)) w) := by
  have b1 := lb_bd y h0 (by omega)
  have b2 := lb_bd 1800 (by omega) (by omega)
  go_enter Try.func97, Try.ntmps97
  go_wp2_with (go_at_call 108; refine (leapsBefore_any _ _ (by omega) (by omega)).mono ?_; rintro e w' ⟨rfl, rfl⟩)
  go_ret
  exact ⟨rfl, rfl⟩
theorem weekday_any (n : Int) (w : World) (h0 : 0 ≤ n) (h9 : n ≤ 10000000) : Calls Try.prog 71 #[.int .i64 n] w (Ret (.int .i64 ((n + 2) % 7)) w) := by
  go_enter Try.func71, Try.ntmps71
  go_wp2
  go_ret
  exact ⟨rfl, rfl⟩
theorem xWeekday_any (n : Int) (w : World) (h0 : 0 ≤ n) (h9 : n ≤ 10000000) : Calls Try.prog 25 #[.int .i64 n] w (Ret (.int .i64 ((n + 2) % 7)) w) := by
  go_enter Try.func25, Try.ntmps25
  go_wp2
  go_ret
  exact ⟨rfl, rfl⟩
end Go.Proofs.Ytfphedcgmaakjaa
