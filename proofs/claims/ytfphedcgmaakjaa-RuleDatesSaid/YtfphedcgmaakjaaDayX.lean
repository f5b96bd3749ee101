/-
  What DayOf of the specification of package rule returns: a contract for all worlds.
-/
import Derived.Test.YtfphedcgmaakjaaBelow
namespace Go.Proofs.Ytfphedcgmaakjaa
open Go.RowKit
attribute [local go_sem] set_drewN
set_option maxRecDepth 100000 in
set_option maxHeartbeats 1000000 in
theorem xDayOf_any (y m d : Int) (w : World) : Calls Try.prog 19 #[.agg #[.int .i64 y, .int .i64 m, .int .i64 d]] w (RetB (dayV y m d) w) := by
  cases h1 : inB y 1800 2347
  · rw [dayV_1 h1]
    go_enter Try.func19, Try.ntmps19
    go_wp2_with (go_at_call 20; refine (xIsYear_any _ _).mono ?_; rintro e w' ⟨rfl, rfl⟩)
    go_ret2
    exact ⟨rfl, (Below.refl _ _).alloc (Nat.le_refl _) _⟩
  · obtain ⟨y1, y2⟩ := inB_iff.1 h1
    cases h2 : inB m 1 12
    · rw [dayV_2 h1 h2]
      go_enter Try.func19, Try.ntmps19
      go_wp2_with (go_at_call 20; refine (xIsYear_any _ _).mono ?_; rintro e w' ⟨rfl, rfl⟩)
      go_quiet (first
        | (go_at_call 21; exact quiet_left (bWithin_any _ _ _ _)))
      go_wp2
      go_ret2
      exact ⟨rfl, below_n ((Below.refl _ _).alloc (Nat.le_refl _) _) _⟩
    · obtain ⟨m1, m2⟩ := inB_iff.1 h2
      cases h3 : inB d 1 (Cal.md y m)
      · rw [dayV_3 h1 h2 h3]
        go_enter Try.func19, Try.ntmps19
        go_wp2_with (go_at_call 20; refine (xIsYear_any _ _).mono ?_; rintro e w' ⟨rfl, rfl⟩)
        go_quiet (first
          | (go_at_call 21; exact quiet_left (bWithin_any _ _ _ _))
          | (go_at_call 22; exact quiet_left (xMonthDays_any _ _ _ (by omega) (by omega) (by omega) (by omega)))
          )
        go_wp2
        go_ret2
        exact ⟨rfl, below_n ((Below.refl _ _).alloc (Nat.le_refl _) _) _⟩
      · obtain ⟨d1, d2⟩ := inB_iff.1 h3
        have mb := Cal.md_bd y m
        have nb := ny_bd2 y (by omega) (by omega)
        have cb := Cal.cum_bd y m (by omega) (by omega)
        have hnum : Cal.num y m d = Cal.ny y + Cal.cum y m + d - 1 := rfl
        cases h4 : inB (Cal.num y m d) 0 200000
        · rw [dayV_4 h1 h2 h3 h4]
          rw [hnum] at h4
          clear hnum
          go_enter Try.func19, Try.ntmps19
          go_wp2_with (go_at_call 20; refine (xIsYear_any _ _).mono ?_; rintro e w' ⟨rfl, rfl⟩)
          go_quiet (first
            | (go_at_call 21; exact quiet_left (bWithin_any _ _ _ _))
            | (go_at_call 22; exact quiet_left (xMonthDays_any _ _ _ (by omega) (by omega) (by omega) (by omega)))
            )
          go_wp2
          go_quiet ((go_at_call 72; exact quiet_add_left (First_any _ _ _ (by omega) (by omega) (by omega) (by omega))))
          go_wp2_with (go_at_call 23; refine (xIsDay_any _ _).mono ?_; rintro e w' ⟨rfl, rfl⟩)
          go_ret2
          exact ⟨rfl, below_n ((Below.refl _ _).alloc (Nat.le_refl _) _) _⟩
        · rw [dayV_5 h1 h2 h3 h4]
          rw [hnum] at h4 ⊢
          clear hnum
          go_enter Try.func19, Try.ntmps19
          go_wp2_with (go_at_call 20; refine (xIsYear_any _ _).mono ?_; rintro e w' ⟨rfl, rfl⟩)
          go_quiet (first
            | (go_at_call 21; exact quiet_left (bWithin_any _ _ _ _))
            | (go_at_call 22; exact quiet_left (xMonthDays_any _ _ _ (by omega) (by omega) (by omega) (by omega)))
            )
          go_wp2
          go_quiet ((go_at_call 72; exact quiet_add_left (First_any _ _ _ (by omega) (by omega) (by omega) (by omega))))
          go_wp2_with (go_at_call 23; refine (xIsDay_any _ _).mono ?_; rintro e w' ⟨rfl, rfl⟩)
          go_ret2
          exact ⟨rfl, below_n ((Below.refl _ _).alloc (Nat.le_refl _) _) _⟩
end Go.Proofs.Ytfphedcgmaakjaa
