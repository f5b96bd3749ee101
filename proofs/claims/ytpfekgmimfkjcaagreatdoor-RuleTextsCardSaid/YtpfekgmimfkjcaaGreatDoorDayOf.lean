/-
  What DayOf, DateOf, Weekday and MonthDays of package rule, and DayOf of its specification, return: contracts, each for all worlds.
-/
import Derived.Test.YtpfekgmimfkjcaaGreatDoorEaster
namespace Go.Proofs.YtpfekgmimfkjcaaGreatDoor
open Go.RowKit
attribute [local go_sem] set_drewN
/-- the day with a date, and its error -/
def dayE (y m d : Int) : Int :=
  if inB y 1800 2347 then (if inB m 1 12 && inB d 1 (Cal.md y m) then (if inB (Cal.num y m d) 0 200000 then 0 else 2) else 24) else 2
def dayN (y m d : Int) : Int := if dayE y m d = 0 then Cal.num y m d else 0
abbrev dayV (y m d : Int) : Value := two (.int .i64 (dayN y m d)) (.int .i64 (dayE y m d))
theorem dayV_1 {y m d : Int} (h : inB y 1800 2347 = false) : dayV y m d = two (.int .i64 0) (.int .i64 2) := by simp [dayV, dayN, dayE, h]
theorem dayV_2 {y m d : Int} (h : inB y 1800 2347 = true) (h2 : inB m 1 12 = false) : dayV y m d = two (.int .i64 0) (.int .i64 24) := by simp [dayV, dayN, dayE, h, h2]
theorem dayV_3 {y m d : Int} (h : inB y 1800 2347 = true) (h2 : inB m 1 12 = true) (h3 : inB d 1 (Cal.md y m) = false) : dayV y m d = two (.int .i64 0) (.int .i64 24) := by simp [dayV, dayN, dayE, h, h2, h3]
theorem dayV_4 {y m d : Int} (h : inB y 1800 2347 = true) (h2 : inB m 1 12 = true) (h3 : inB d 1 (Cal.md y m) = true) (h4 : inB (Cal.num y m d) 0 200000 = false) : dayV y m d = two (.int .i64 0) (.int .i64 2) := by simp [dayV, dayN, dayE, h, h2, h3, h4]
theorem dayV_5 {y m d : Int} (h : inB y 1800 2347 = true) (h2 : inB m 1 12 = true) (h3 : inB d 1 (Cal.md y m) = true) (h4 : inB (Cal.num y m d) 0 200000 = true) : dayV y m d = two (.int .i64 (Cal.num y m d)) (.int .i64 0) := by simp [dayV, dayN, dayE, h, h2, h3, h4]
set_option maxRecDepth 100000 in
set_option maxHeartbeats 1000000 in
theorem DayOf_any (y m d : Int) (w : World) : Calls Tryz.prog 18 #[.agg #[.int .i64 y, .int .i64 m, .int .i64 d]] w (RetB (dayV y m d) w) := by
  cases h1 : inB y 1800 2347
  · rw [dayV_1 h1]
    go_enter Tryz.func18, Tryz.ntmps18
    go_wp2_with (go_at_call 36; refine (isFromTo_any _ _ _ _).mono ?_; rintro e w' ⟨rfl, rfl⟩)
    go_ret2
    exact ⟨rfl, (Below.refl _ _).alloc (Nat.le_refl _) _⟩
  · obtain ⟨y1, y2⟩ := inB_iff.1 h1
    cases h2 : inB m 1 12
    · rw [dayV_2 h1 h2]
      go_enter Tryz.func18, Tryz.ntmps18
      go_wp2_with (go_at_call 36; refine (isFromTo_any _ _ _ _).mono ?_; rintro e w' ⟨rfl, rfl⟩)
      go_quiet (first
        | (go_at_call 37; exact quiet_left (isMonth_any _ _)))
      go_wp2
      go_ret2
      exact ⟨rfl, below_n ((Below.refl _ _).alloc (Nat.le_refl _) _) _⟩
    · obtain ⟨m1, m2⟩ := inB_iff.1 h2
      cases h3 : inB d 1 (Cal.md y m)
      · rw [dayV_3 h1 h2 h3]
        go_enter Tryz.func18, Tryz.ntmps18
        go_wp2_with (go_at_call 36; refine (isFromTo_any _ _ _ _).mono ?_; rintro e w' ⟨rfl, rfl⟩)
        go_quiet (first
          | (go_at_call 37; exact quiet_left (isMonth_any _ _))
          | (go_at_call 38; exact quiet_left (monthDays_any _ _ _ (by omega) (by omega)))
          | (go_at_call 36; exact quiet_left (isFromTo_any _ _ _ _)))
        go_wp2
        go_ret2
        exact ⟨rfl, below_n ((Below.refl _ _).alloc (Nat.le_refl _) _) _⟩
      · obtain ⟨d1, d2⟩ := inB_iff.1 h3
        have mb := Cal.md_bd y m
        cases h4 : inB (Cal.num y m d) 0 200000
        · rw [dayV_4 h1 h2 h3 h4]
          go_enter Tryz.func18, Tryz.ntmps18
          go_wp2_with (go_at_call 36; refine (isFromTo_any _ _ _ _).mono ?_; rintro e w' ⟨rfl, rfl⟩)
          go_quiet (first
            | (go_at_call 37; exact quiet_left (isMonth_any _ _))
            | (go_at_call 38; exact quiet_left (monthDays_any _ _ _ (by omega) (by omega)))
            | (go_at_call 36; exact quiet_left (isFromTo_any _ _ _ _)))
          go_wp2_with (first
            | (go_at_call 39; refine (dayOf_any _ _ _ _ (by omega) (by omega) (by omega) (by omega) (by omega) (by omega)).mono ?_; rintro e w1 ⟨rfl, hb1⟩)
            | (go_at_call 40; refine (isDay_any _ _).mono ?_; rintro e w' ⟨rfl, rfl⟩))
          go_ret2
          exact ⟨rfl, (below_n ((Below.refl _ _).alloc (Nat.le_refl _) _) _).trans (hb1.mono (by simp))⟩
        · rw [dayV_5 h1 h2 h3 h4]
          go_enter Tryz.func18, Tryz.ntmps18
          go_wp2_with (go_at_call 36; refine (isFromTo_any _ _ _ _).mono ?_; rintro e w' ⟨rfl, rfl⟩)
          go_quiet (first
            | (go_at_call 37; exact quiet_left (isMonth_any _ _))
            | (go_at_call 38; exact quiet_left (monthDays_any _ _ _ (by omega) (by omega)))
            | (go_at_call 36; exact quiet_left (isFromTo_any _ _ _ _)))
          go_wp2_with (first
            | (go_at_call 39; refine (dayOf_any _ _ _ _ (by omega) (by omega) (by omega) (by omega) (by omega) (by omega)).mono ?_; rintro e w1 ⟨rfl, hb1⟩)
            | (go_at_call 40; refine (isDay_any _ _).mono ?_; rintro e w' ⟨rfl, rfl⟩))
          go_ret2
          exact ⟨rfl, (below_n ((Below.refl _ _).alloc (Nat.le_refl _) _) _).trans (hb1.mono (by simp))⟩
theorem cell_set3 {W : World} {b : Nat} {x0 x1 x2 : Value} (h0 : W.cell? ⟨b, 0, none⟩ = some x0) (h1 : W.cell? ⟨b, 1, none⟩ = some x1) (h2 : W.cell? ⟨b, 2, none⟩ = some x2) (y0 y1 y2 : Value) :
    (W.setCell ⟨b, 0, none⟩ y0).cell? ⟨b, 0, none⟩ = some y0 ∧
    ((W.setCell ⟨b, 0, none⟩ y0).setCell ⟨b, 1, none⟩ y1).cell? ⟨b, 1, none⟩ = some y1 ∧
    (((W.setCell ⟨b, 0, none⟩ y0).setCell ⟨b, 1, none⟩ y1).setCell ⟨b, 2, none⟩ y2).cell? ⟨b, 2, none⟩ = some y2 := by
  have a1 : (W.setCell ⟨b, 0, none⟩ y0).cell? ⟨b, 1, none⟩ = some x1 := (World.cell?_setCell_other _ _ _ _ (by simp)).trans h1
  have a2' : (W.setCell ⟨b, 0, none⟩ y0).cell? ⟨b, 2, none⟩ = some x2 := (World.cell?_setCell_other _ _ _ _ (by simp)).trans h2
  have a2 : ((W.setCell ⟨b, 0, none⟩ y0).setCell ⟨b, 1, none⟩ y1).cell? ⟨b, 2, none⟩ = some x2 := (World.cell?_setCell_other _ _ _ _ (by simp)).trans a2'
  exact ⟨World.cell?_setCell_same _ _ _ h0, World.cell?_setCell_same _ _ _ a1, World.cell?_setCell_same _ _ _ a2⟩
/-- how many days a month has, and the error -/
def mdE (y m : Int) : Int := if inB y 1800 2347 then (if inB m 1 12 then 0 else 24) else 2
def mdN (y m : Int) : Int := if mdE y m = 0 then Cal.md y m else 0
end Go.Proofs.YtpfekgmimfkjcaaGreatDoor
