/-
  What the functions on years and months of package rule and of its specification return, for years from 1 to 10000: contracts, each for all worlds.
-/
import Derived.Test.YtpfekgmimfkjcaaGreatDoorNums
namespace Go.Proofs.YtpfekgmimfkjcaaGreatDoor
open Go.RowKit
theorem leap_1 {y : Int} (h : (y % 4 == 0) = false) (h3 : (y % 400 == 0) = false) : Cal.leap y = false := by simp [Cal.leap, h, h3]
theorem leap_2 {y : Int} (h1 : (y % 4 == 0) = true) (h2 : (y % 100 == 0) = false) : Cal.leap y = true := by
  have : (y % 100 != 0) = true := by simpa using h2
  simp [Cal.leap, h1, this]
theorem leap_3 {y : Int} (h3 : (y % 400 == 0) = true) : Cal.leap y = true := by simp [Cal.leap, h3]
theorem leap_4 {y : Int} (h2 : (y % 100 == 0) = true) (h3 : (y % 400 == 0) = false) : Cal.leap y = false := by
  have : (y % 100 != 0) = false := by simpa using h2
  simp [Cal.leap, h3, this]
theorem isLeap_any (y : Int) (w : World) (h0 : 0 ≤ y) (h9 : y ≤ 10000) : Calls Tryz.prog 58 #[.int .i64 y] w (Ret (.bool (Cal.leap y)) w) := by
  cases h1 : (y % 4 == 0)
  · have h3 : (y % 400 == 0) = false := by simp at h1 ⊢; omega
    rw [leap_1 h1 h3]
    go_enter Tryz.func58, Tryz.ntmps58
    go_wp2
    go_ret
    exact ⟨rfl, rfl⟩
  · cases h2 : (y % 100 == 0)
    · rw [leap_2 h1 h2]
      have h2' : (y % 100 != 0) = true := by simpa using h2
      go_enter Tryz.func58, Tryz.ntmps58
      go_wp2
      go_ret
      exact ⟨rfl, rfl⟩
    · have h2' : (y % 100 != 0) = false := by simpa using h2
      cases h3 : (y % 400 == 0)
      · rw [leap_4 h2 h3]
        go_enter Tryz.func58, Tryz.ntmps58
        go_wp2
        go_ret
        exact ⟨rfl, rfl⟩
      · rw [leap_3 h3]
        go_enter Tryz.func58, Tryz.ntmps58
        go_wp2
        go_ret
        exact ⟨rfl, rfl⟩
theorem md_2 {y : Int} (h : Cal.leap y = true) : Cal.md y 2 = 29 := by simp [Cal.md, Cal.lp, h]
theorem md_2' {y : Int} (h : Cal.leap y = false) : Cal.md y 2 = 28 := by simp [Cal.md, Cal.lp, h]
theorem md_n {y m : Int} (h : m = 4 ∨ m = 6 ∨ m = 9 ∨ m = 11) : Cal.md y m = 30 := by unfold Cal.md; rw [if_neg (by omega), if_pos h]
theorem md_o {y m : Int} (h2 : m ≠ 2) (h : ¬ (m = 4 ∨ m = 6 ∨ m = 9 ∨ m = 11)) : Cal.md y m = 31 := by unfold Cal.md; rw [if_neg h2, if_neg h]
theorem eqf {m k : Int} (h : m ≠ k) : (m == k) = false := by simpa using h
/-- for every month, of numbers that are none, too -/
theorem monthDays_any (y m : Int) (w : World) (h0 : 0 ≤ y) (h9 : y ≤ 10000) : Calls Tryz.prog 38 #[.int .i64 y, .int .i64 m] w (Ret (.int .i64 (Cal.md y m)) w) := by
  by_cases h2 : m = 2
  · subst h2
    cases hl : Cal.leap y
    · rw [md_2' hl]
      go_enter Tryz.func38, Tryz.ntmps38
      go_wp2_with (go_at_call 58; refine (isLeap_any _ _ (by omega) (by omega)).mono ?_; rintro e w' ⟨rfl, rfl⟩)
      go_ret
      exact ⟨rfl, rfl⟩
    · rw [md_2 hl]
      go_enter Tryz.func38, Tryz.ntmps38
      go_wp2_with (go_at_call 58; refine (isLeap_any _ _ (by omega) (by omega)).mono ?_; rintro e w' ⟨rfl, rfl⟩)
      go_ret
      exact ⟨rfl, rfl⟩
  · have e2 := eqf h2
    by_cases h : m = 4 ∨ m = 6 ∨ m = 9 ∨ m = 11
    · rw [md_n h]
      rcases h with rfl | rfl | rfl | rfl
      all_goals
        clear e2 h2
        go_enter Tryz.func38, Tryz.ntmps38
        go_wp2
        go_ret
        exact ⟨rfl, rfl⟩
    · rw [md_o h2 h]
      have e4 := eqf (m := m) (k := 4) (by omega)
      have e6 := eqf (m := m) (k := 6) (by omega)
      have e9 := eqf (m := m) (k := 9) (by omega)
      have e11 := eqf (m := m) (k := 11) (by omega)
      clear h h2
      go_enter Tryz.func38, Tryz.ntmps38
      go_wp2
      go_ret
      exact ⟨rfl, rfl⟩
theorem leapsBefore_any (y : Int) (w : World) (h0 : 1 ≤ y) (h9 : y ≤ 10000) : Calls Tryz.prog 74 #[.int .i64 y] w (Ret (.int .i64 (Cal.lb y)) w) := by
  go_enter Tryz.func74, Tryz.ntmps74
  go_wp2
  go_ret
  exact ⟨rfl, rfl⟩
theorem lb_bd (y : Int) (h0 : 1 ≤ y) (h9 : y ≤ 10001) : 0 ≤ Cal.lb y ∧ Cal.lb y ≤ 3000 := by unfold Cal.lb; omega
theorem ret_i {a b : Int} (h : a = b) : Ending.returned (.int .i64 a) = .returned (.int .i64 b) := by rw [h]
theorem newYear_any (y : Int) (w : World) (h0 : 1 ≤ y) (h9 : y ≤ 10000) : Calls Tryz.prog 59 #[.int .i64 y] w (Ret (.int .i64 (Cal.ny y)) w) := by
  have b1 := lb_bd y h0 (by omega)
  have b2 := lb_bd 1800 (by omega) (by omega)
  go_enter Tryz.func59, Tryz.ntmps59
  go_wp2_with (go_at_call 74; refine (leapsBefore_any _ _ (by omega) (by omega)).mono ?_; rintro e w' ⟨rfl, rfl⟩)
  go_ret
  exact ⟨rfl, rfl⟩
theorem weekday_any (n : Int) (w : World) (h0 : 0 ≤ n) (h9 : n ≤ 10000000) : Calls Tryz.prog 79 #[.int .i64 n] w (Ret (.int .i64 ((n + 2) % 7)) w) := by
  go_enter Tryz.func79, Tryz.ntmps79
  go_wp2
  go_ret
  exact ⟨rfl, rfl⟩
end Go.Proofs.YtpfekgmimfkjcaaGreatDoor
