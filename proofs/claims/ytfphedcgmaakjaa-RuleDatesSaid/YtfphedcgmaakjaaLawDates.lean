/-
  RuleDates returns true for every date and every day, in every world.
-/
import Derived.Test.YtfphedcgmaakjaaDayX
import Derived.Test.YtfphedcgmaakjaaAge
import Derived.Deep.RegionHeld3
namespace Go.Proofs.Ytfphedcgmaakjaa
open Go.RowKit
attribute [local go_sem] set_drewN
theorem day_back {n : Int} (h : inB n 0 200000 = true) : dayV (Cal.yr n) (Cal.mo n) (Cal.da n) = two (.int .i64 n) (.int .i64 0) := by
  obtain ⟨h0, h9⟩ := inB_iff.1 h
  obtain ⟨a, b, c⟩ := Cal.date_spec n h0
  have l := Cal.ok_num_lo b
  rw [c] at l
  have := Cal.ny_lo (Cal.yr n)
  obtain ⟨b1, b2, b3, b4⟩ := b
  rw [dayV_5 (inB_yes a (by omega)) (inB_yes b1 b2) (inB_yes b3 b4) (by rw [c]; exact h), c]
/-- a date lies in block B -/
def D3 (W : World) (B : Nat) (y m d : Int) : Prop := B < W.heap.size ∧ W.cell? ⟨B, 0, none⟩ = some (.int .i64 y) ∧ W.cell? ⟨B, 1, none⟩ = some (.int .i64 m) ∧ W.cell? ⟨B, 2, none⟩ = some (.int .i64 d)
theorem D3.below {W W' : World} {B : Nat} {y m d : Int} (h : D3 W B y m d) (hb : Below W.heap.size W W') : D3 W' B y m d := by
  obtain ⟨hl, a, b, c⟩ := h
  exact ⟨Nat.lt_of_lt_of_le hl hb.size, (hb.cell hl).trans a, (hb.cell hl).trans b, (hb.cell hl).trans c⟩
theorem D3.new (W : World) (y m d : Int) : D3 (W.alloc (.cells #[.int .i64 y, .int .i64 m, .int .i64 d] 23)) W.heap.size y m d := ⟨by simp, by simp [go_sem], by simp [go_sem], by simp [go_sem]⟩
set_option maxRecDepth 100000 in
set_option maxHeartbeats 2000000 in
theorem RuleDates_1n (y m d n : Int) (w : World) (y1 : inB y 1800 2347 = false) (hn : inB n 0 200000 = false) :
    Calls Try.prog 3 #[.agg #[.int .i64 y, .int .i64 m, .int .i64 d], .int .i64 n] w (RetB (.bool true) w) := by
  have e1 : mdE y m = 2 := by simp [mdE, y1]
  have e2 : mdN y m = 0 := by simp [mdN, e1]
  have DO := Lib.hid (fun w => (DayOf_any y m d w : Calls Try.prog 15 #[.agg #[.int .i64 y, .int .i64 m, .int .i64 d]] w (RetB (two (.int .i64 (dayN y m d)) (.int .i64 (dayE y m d))) w)))
  have XO := Lib.hid (fun w => (xDayOf_any y m d w : Calls Try.prog 19 #[.agg #[.int .i64 y, .int .i64 m, .int .i64 d]] w (RetB (two (.int .i64 (dayN y m d)) (.int .i64 (dayE y m d))) w)))
  have hEw : 0 ≤ dayE y m d ∧ dayE y m d ≤ 24 := by unfold dayE; (repeat' split) <;> omega
  generalize dayN y m d = N at *
  generalize dayE y m d = E at *
  have DT := Lib.hid (fun w => DateOf_no n w hn)
  have WD := Lib.hid (fun w => Weekday_no n w hn)
  go_enter Try.func3, Try.ntmps3
  go_wp2_with fail
  refine (awake_any _).mono ?_
  rintro e w1 ⟨rfl, hb1⟩
  have A1 := Lib.hid ((D3.new w y m d).below hb1)
  obtain ⟨al1, a10, a11, a12⟩ := A1.out
  go_wp2_with fail
  refine (DO.out _).mono ?_
  rintro e w2 ⟨rfl, hb2⟩
  have A2 := Lib.hid (A1.out.below hb2)
  go_wp2_with fail
  refine (DT.out _).mono ?_
  rintro e w3 ⟨rfl, hb3⟩
  have A3 := Lib.hid (A2.out.below hb3)
  go_wp2_with fail
  refine (WD.out _).mono ?_
  rintro e w4 ⟨rfl, hb4⟩
  have A4 := Lib.hid ((A3.out.below ((Below.refl _ _).alloc (Nat.le_refl _) _)).below hb4)
  have B4 := Lib.hid ((D3.new w3 0 0 0).below hb4)
  obtain ⟨al4, a40, a41, a42⟩ := A4.out
  go_wp2_with fail
  refine (MonthDays_any _ _ _).mono ?_
  rintro e w' ⟨rfl, rfl⟩
  go_wp2_with fail
  refine (XO.out _).mono ?_
  rintro e w5 ⟨rfl, hb5⟩
  have A5 := Lib.hid (A4.out.below hb5)
  have B5 := Lib.hid (B4.out.below hb5)
  obtain ⟨al5, a50, a51, a52⟩ := A5.out
  obtain ⟨bl5, b50, b51, b52⟩ := B5.out
  clear a10 a11 a12 a40 a41 a42
  have q1 := hb1.size; have q2 := hb2.size; have q3 := hb3.size; have q4 := hb4.size; have q5 := hb5.size
  simp only [World.size_alloc] at q1 q4
  have BB : Below w.heap.size w w5 := (((((((Below.refl _ _).alloc (Nat.le_refl _) _).trans (hb1.mono (by simp))).trans (hb2.mono (by omega))).trans (hb3.mono (by omega))).alloc (by omega) _).trans (hb4.mono (by simp; omega))).trans (hb5.mono (by omega))
  clear hb1 hb2 hb3 hb4 hb5
  go_wp2_with (first
    | (go_at_call 20; refine (xIsYear_any _ _).mono ?_; rintro e w' ⟨rfl, rfl⟩)
    | (go_at_call 21; refine (bWithin_any _ _ _ _).mono ?_; rintro e w' ⟨rfl, rfl⟩)
    | (go_at_call 23; refine (xIsDay_any _ _).mono ?_; rintro e w' ⟨rfl, rfl⟩))
  go_ret
  exact ⟨rfl, BB⟩
set_option maxRecDepth 100000 in
set_option maxHeartbeats 2000000 in
theorem RuleDates_1d (y m d n : Int) (w : World) (y1 : inB y 1800 2347 = false) (hn : inB n 0 200000 = true) :
    Calls Try.prog 3 #[.agg #[.int .i64 y, .int .i64 m, .int .i64 d], .int .i64 n] w (RetB (.bool true) w) := by
  have e1 : mdE y m = 2 := by simp [mdE, y1]
  have e2 : mdN y m = 0 := by simp [mdN, e1]
  have DO := Lib.hid (fun w => (DayOf_any y m d w : Calls Try.prog 15 #[.agg #[.int .i64 y, .int .i64 m, .int .i64 d]] w (RetB (two (.int .i64 (dayN y m d)) (.int .i64 (dayE y m d))) w)))
  have XO := Lib.hid (fun w => (xDayOf_any y m d w : Calls Try.prog 19 #[.agg #[.int .i64 y, .int .i64 m, .int .i64 d]] w (RetB (two (.int .i64 (dayN y m d)) (.int .i64 (dayE y m d))) w)))
  have hEw : 0 ≤ dayE y m d ∧ dayE y m d ≤ 24 := by unfold dayE; (repeat' split) <;> omega
  generalize dayN y m d = N at *
  generalize dayE y m d = E at *
  obtain ⟨n0, n9⟩ := inB_iff.1 hn
  have DT := Lib.hid (fun w => DateOf_yes n w hn)
  have WD := Lib.hid (fun w => Weekday_any n w hn)
  have XD := Lib.hid (fun w => xDateOf_any n w n0 (by omega))
  have BK := Lib.hid (fun w => by have h := DayOf_any (Cal.yr n) (Cal.mo n) (Cal.da n) w; rw [day_back hn] at h; exact h)
  generalize Cal.yr n = Y at *
  generalize Cal.mo n = M at *
  generalize Cal.da n = D at *
  go_enter Try.func3, Try.ntmps3
  go_wp2_with fail
  refine (awake_any _).mono ?_
  rintro e w1 ⟨rfl, hb1⟩
  have A1 := Lib.hid ((D3.new w y m d).below hb1)
  obtain ⟨al1, a10, a11, a12⟩ := A1.out
  go_wp2_with fail
  refine (DO.out _).mono ?_
  rintro e w2 ⟨rfl, hb2⟩
  have A2 := Lib.hid (A1.out.below hb2)
  go_wp2_with fail
  refine (DT.out _).mono ?_
  rintro e w3 ⟨rfl, hb3⟩
  have A3 := Lib.hid (A2.out.below hb3)
  go_wp2_with fail
  refine (WD.out _).mono ?_
  rintro e w4 ⟨rfl, hb4⟩
  have A4 := Lib.hid ((A3.out.below ((Below.refl _ _).alloc (Nat.le_refl _) _)).below hb4)
  have B4 := Lib.hid ((D3.new w3 Y M D).below hb4)
  obtain ⟨al4, a40, a41, a42⟩ := A4.out
  go_wp2_with fail
  refine (MonthDays_any _ _ _).mono ?_
  rintro e w' ⟨rfl, rfl⟩
  go_wp2_with fail
  refine (XO.out _).mono ?_
  rintro e w5 ⟨rfl, hb5⟩
  have A5 := Lib.hid (A4.out.below hb5)
  have B5 := Lib.hid (B4.out.below hb5)
  obtain ⟨al5, a50, a51, a52⟩ := A5.out
  obtain ⟨bl5, b50, b51, b52⟩ := B5.out
  clear a10 a11 a12 a40 a41 a42
  have q1 := hb1.size; have q2 := hb2.size; have q3 := hb3.size; have q4 := hb4.size; have q5 := hb5.size
  simp only [World.size_alloc] at q1 q4
  have BB : Below w.heap.size w w5 := (((((((Below.refl _ _).alloc (Nat.le_refl _) _).trans (hb1.mono (by simp))).trans (hb2.mono (by omega))).trans (hb3.mono (by omega))).alloc (by omega) _).trans (hb4.mono (by simp; omega))).trans (hb5.mono (by omega))
  clear hb1 hb2 hb3 hb4 hb5
  go_wp2_with (first
    | (go_at_call 20; refine (xIsYear_any _ _).mono ?_; rintro e w' ⟨rfl, rfl⟩)
    | (go_at_call 21; refine (bWithin_any _ _ _ _).mono ?_; rintro e w' ⟨rfl, rfl⟩)
    | (go_at_call 23; refine (xIsDay_any _ _).mono ?_; rintro e w' ⟨rfl, rfl⟩))
  go_region_held3 (fun w' => w'.cell? ⟨w3.heap.size, 0, none⟩ = some (.int .i64 Y) ∧ w'.cell? ⟨w3.heap.size, 1, none⟩ = some (.int .i64 M) ∧ w'.cell? ⟨w3.heap.size, 2, none⟩ = some (.int .i64 D)) (go_keep)
    (first
      | (go_at_call 24; refine (XD.out _).mono ?_; rintro e w6 ⟨rfl, hb6⟩; have k0 : w6.cell? ⟨w3.heap.size, 0, none⟩ = some (.int .i64 Y) := (hb6.cell (p := ⟨w3.heap.size, 0, none⟩) (by simpa using bl5)).trans (by simp [go_sem, b50]); have k1 : w6.cell? ⟨w3.heap.size, 1, none⟩ = some (.int .i64 M) := (hb6.cell (p := ⟨w3.heap.size, 1, none⟩) (by simpa using bl5)).trans (by simp [go_sem, b51]); have k2 : w6.cell? ⟨w3.heap.size, 2, none⟩ = some (.int .i64 D) := (hb6.cell (p := ⟨w3.heap.size, 2, none⟩) (by simpa using bl5)).trans (by simp [go_sem, b52]))
      | (go_at_call 25; refine (xWeekday_any _ _ (by omega) (by omega)).mono ?_; rintro e w' ⟨rfl, rfl⟩))
  all_goals
    have q6 := hb6.size
    simp at q6
    go_wp2_with fail
    refine (BK.out _).mono ?_
    rintro e w7 ⟨rfl, hb7⟩
    go_wp2
    go_ret
    exact ⟨rfl, ((below_dr BB).trans (hb6.mono (by simp; omega))).trans (hb7.mono (by omega))⟩
set_option maxRecDepth 100000 in
set_option maxHeartbeats 2000000 in
theorem RuleDates_2n (y m d n : Int) (w : World) (y1 : inB y 1800 2347 = true) (m1 : inB m 1 12 = false) (hn : inB n 0 200000 = false) :
    Calls Try.prog 3 #[.agg #[.int .i64 y, .int .i64 m, .int .i64 d], .int .i64 n] w (RetB (.bool true) w) := by
  have e1 : mdE y m = 24 := by simp [mdE, y1, m1]
  have e2 : mdN y m = 0 := by simp [mdN, e1]
  have DO := Lib.hid (fun w => (DayOf_any y m d w : Calls Try.prog 15 #[.agg #[.int .i64 y, .int .i64 m, .int .i64 d]] w (RetB (two (.int .i64 (dayN y m d)) (.int .i64 (dayE y m d))) w)))
  have XO := Lib.hid (fun w => (xDayOf_any y m d w : Calls Try.prog 19 #[.agg #[.int .i64 y, .int .i64 m, .int .i64 d]] w (RetB (two (.int .i64 (dayN y m d)) (.int .i64 (dayE y m d))) w)))
  have hEw : 0 ≤ dayE y m d ∧ dayE y m d ≤ 24 := by unfold dayE; (repeat' split) <;> omega
  generalize dayN y m d = N at *
  generalize dayE y m d = E at *
  have DT := Lib.hid (fun w => DateOf_no n w hn)
  have WD := Lib.hid (fun w => Weekday_no n w hn)
  go_enter Try.func3, Try.ntmps3
  go_wp2_with fail
  refine (awake_any _).mono ?_
  rintro e w1 ⟨rfl, hb1⟩
  have A1 := Lib.hid ((D3.new w y m d).below hb1)
  obtain ⟨al1, a10, a11, a12⟩ := A1.out
  go_wp2_with fail
  refine (DO.out _).mono ?_
  rintro e w2 ⟨rfl, hb2⟩
  have A2 := Lib.hid (A1.out.below hb2)
  go_wp2_with fail
  refine (DT.out _).mono ?_
  rintro e w3 ⟨rfl, hb3⟩
  have A3 := Lib.hid (A2.out.below hb3)
  go_wp2_with fail
  refine (WD.out _).mono ?_
  rintro e w4 ⟨rfl, hb4⟩
  have A4 := Lib.hid ((A3.out.below ((Below.refl _ _).alloc (Nat.le_refl _) _)).below hb4)
  have B4 := Lib.hid ((D3.new w3 0 0 0).below hb4)
  obtain ⟨al4, a40, a41, a42⟩ := A4.out
  go_wp2_with fail
  refine (MonthDays_any _ _ _).mono ?_
  rintro e w' ⟨rfl, rfl⟩
  go_wp2_with fail
  refine (XO.out _).mono ?_
  rintro e w5 ⟨rfl, hb5⟩
  have A5 := Lib.hid (A4.out.below hb5)
  have B5 := Lib.hid (B4.out.below hb5)
  obtain ⟨al5, a50, a51, a52⟩ := A5.out
  obtain ⟨bl5, b50, b51, b52⟩ := B5.out
  clear a10 a11 a12 a40 a41 a42
  have q1 := hb1.size; have q2 := hb2.size; have q3 := hb3.size; have q4 := hb4.size; have q5 := hb5.size
  simp only [World.size_alloc] at q1 q4
  have BB : Below w.heap.size w w5 := (((((((Below.refl _ _).alloc (Nat.le_refl _) _).trans (hb1.mono (by simp))).trans (hb2.mono (by omega))).trans (hb3.mono (by omega))).alloc (by omega) _).trans (hb4.mono (by simp; omega))).trans (hb5.mono (by omega))
  clear hb1 hb2 hb3 hb4 hb5
  go_wp2_with (first
    | (go_at_call 20; refine (xIsYear_any _ _).mono ?_; rintro e w' ⟨rfl, rfl⟩)
    | (go_at_call 21; refine (bWithin_any _ _ _ _).mono ?_; rintro e w' ⟨rfl, rfl⟩)
    | (go_at_call 23; refine (xIsDay_any _ _).mono ?_; rintro e w' ⟨rfl, rfl⟩))
  go_ret
  exact ⟨rfl, BB⟩
set_option maxRecDepth 100000 in
set_option maxHeartbeats 2000000 in
theorem RuleDates_2d (y m d n : Int) (w : World) (y1 : inB y 1800 2347 = true) (m1 : inB m 1 12 = false) (hn : inB n 0 200000 = true) :
    Calls Try.prog 3 #[.agg #[.int .i64 y, .int .i64 m, .int .i64 d], .int .i64 n] w (RetB (.bool true) w) := by
  have e1 : mdE y m = 24 := by simp [mdE, y1, m1]
  have e2 : mdN y m = 0 := by simp [mdN, e1]
  have DO := Lib.hid (fun w => (DayOf_any y m d w : Calls Try.prog 15 #[.agg #[.int .i64 y, .int .i64 m, .int .i64 d]] w (RetB (two (.int .i64 (dayN y m d)) (.int .i64 (dayE y m d))) w)))
  have XO := Lib.hid (fun w => (xDayOf_any y m d w : Calls Try.prog 19 #[.agg #[.int .i64 y, .int .i64 m, .int .i64 d]] w (RetB (two (.int .i64 (dayN y m d)) (.int .i64 (dayE y m d))) w)))
  have hEw : 0 ≤ dayE y m d ∧ dayE y m d ≤ 24 := by unfold dayE; (repeat' split) <;> omega
  generalize dayN y m d = N at *
  generalize dayE y m d = E at *
  obtain ⟨n0, n9⟩ := inB_iff.1 hn
  have DT := Lib.hid (fun w => DateOf_yes n w hn)
  have WD := Lib.hid (fun w => Weekday_any n w hn)
  have XD := Lib.hid (fun w => xDateOf_any n w n0 (by omega))
  have BK := Lib.hid (fun w => by have h := DayOf_any (Cal.yr n) (Cal.mo n) (Cal.da n) w; rw [day_back hn] at h; exact h)
  generalize Cal.yr n = Y at *
  generalize Cal.mo n = M at *
  generalize Cal.da n = D at *
  go_enter Try.func3, Try.ntmps3
  go_wp2_with fail
  refine (awake_any _).mono ?_
  rintro e w1 ⟨rfl, hb1⟩
  have A1 := Lib.hid ((D3.new w y m d).below hb1)
  obtain ⟨al1, a10, a11, a12⟩ := A1.out
  go_wp2_with fail
  refine (DO.out _).mono ?_
  rintro e w2 ⟨rfl, hb2⟩
  have A2 := Lib.hid (A1.out.below hb2)
  go_wp2_with fail
  refine (DT.out _).mono ?_
  rintro e w3 ⟨rfl, hb3⟩
  have A3 := Lib.hid (A2.out.below hb3)
  go_wp2_with fail
  refine (WD.out _).mono ?_
  rintro e w4 ⟨rfl, hb4⟩
  have A4 := Lib.hid ((A3.out.below ((Below.refl _ _).alloc (Nat.le_refl _) _)).below hb4)
  have B4 := Lib.hid ((D3.new w3 Y M D).below hb4)
  obtain ⟨al4, a40, a41, a42⟩ := A4.out
  go_wp2_with fail
  refine (MonthDays_any _ _ _).mono ?_
  rintro e w' ⟨rfl, rfl⟩
  go_wp2_with fail
  refine (XO.out _).mono ?_
  rintro e w5 ⟨rfl, hb5⟩
  have A5 := Lib.hid (A4.out.below hb5)
  have B5 := Lib.hid (B4.out.below hb5)
  obtain ⟨al5, a50, a51, a52⟩ := A5.out
  obtain ⟨bl5, b50, b51, b52⟩ := B5.out
  clear a10 a11 a12 a40 a41 a42
  have q1 := hb1.size; have q2 := hb2.size; have q3 := hb3.size; have q4 := hb4.size; have q5 := hb5.size
  simp only [World.size_alloc] at q1 q4
  have BB : Below w.heap.size w w5 := (((((((Below.refl _ _).alloc (Nat.le_refl _) _).trans (hb1.mono (by simp))).trans (hb2.mono (by omega))).trans (hb3.mono (by omega))).alloc (by omega) _).trans (hb4.mono (by simp; omega))).trans (hb5.mono (by omega))
  clear hb1 hb2 hb3 hb4 hb5
  go_wp2_with (first
    | (go_at_call 20; refine (xIsYear_any _ _).mono ?_; rintro e w' ⟨rfl, rfl⟩)
    | (go_at_call 21; refine (bWithin_any _ _ _ _).mono ?_; rintro e w' ⟨rfl, rfl⟩)
    | (go_at_call 23; refine (xIsDay_any _ _).mono ?_; rintro e w' ⟨rfl, rfl⟩))
  go_region_held3 (fun w' => w'.cell? ⟨w3.heap.size, 0, none⟩ = some (.int .i64 Y) ∧ w'.cell? ⟨w3.heap.size, 1, none⟩ = some (.int .i64 M) ∧ w'.cell? ⟨w3.heap.size, 2, none⟩ = some (.int .i64 D)) (go_keep)
    (first
      | (go_at_call 24; refine (XD.out _).mono ?_; rintro e w6 ⟨rfl, hb6⟩; have k0 : w6.cell? ⟨w3.heap.size, 0, none⟩ = some (.int .i64 Y) := (hb6.cell (p := ⟨w3.heap.size, 0, none⟩) (by simpa using bl5)).trans (by simp [go_sem, b50]); have k1 : w6.cell? ⟨w3.heap.size, 1, none⟩ = some (.int .i64 M) := (hb6.cell (p := ⟨w3.heap.size, 1, none⟩) (by simpa using bl5)).trans (by simp [go_sem, b51]); have k2 : w6.cell? ⟨w3.heap.size, 2, none⟩ = some (.int .i64 D) := (hb6.cell (p := ⟨w3.heap.size, 2, none⟩) (by simpa using bl5)).trans (by simp [go_sem, b52]))
      | (go_at_call 25; refine (xWeekday_any _ _ (by omega) (by omega)).mono ?_; rintro e w' ⟨rfl, rfl⟩))
  all_goals
    have q6 := hb6.size
    simp at q6
    go_wp2_with fail
    refine (BK.out _).mono ?_
    rintro e w7 ⟨rfl, hb7⟩
    go_wp2
    go_ret
    exact ⟨rfl, ((below_dr BB).trans (hb6.mono (by simp; omega))).trans (hb7.mono (by omega))⟩
set_option maxRecDepth 100000 in
set_option maxHeartbeats 2000000 in
theorem RuleDates_3n (y m d n : Int) (w : World) (y1 : inB y 1800 2347 = true) (m1 : inB m 1 12 = true) (hn : inB n 0 200000 = false) :
    Calls Try.prog 3 #[.agg #[.int .i64 y, .int .i64 m, .int .i64 d], .int .i64 n] w (RetB (.bool true) w) := by
  have e1 : mdE y m = 0 := by simp [mdE, y1, m1]
  have e2 : mdN y m = Cal.md y m := by simp [mdN, e1]
  obtain ⟨ya, yb⟩ := inB_iff.1 y1
  obtain ⟨ma, mb⟩ := inB_iff.1 m1
  have DO := Lib.hid (fun w => (DayOf_any y m d w : Calls Try.prog 15 #[.agg #[.int .i64 y, .int .i64 m, .int .i64 d]] w (RetB (two (.int .i64 (dayN y m d)) (.int .i64 (dayE y m d))) w)))
  have XO := Lib.hid (fun w => (xDayOf_any y m d w : Calls Try.prog 19 #[.agg #[.int .i64 y, .int .i64 m, .int .i64 d]] w (RetB (two (.int .i64 (dayN y m d)) (.int .i64 (dayE y m d))) w)))
  have hEw : 0 ≤ dayE y m d ∧ dayE y m d ≤ 24 := by unfold dayE; (repeat' split) <;> omega
  generalize dayN y m d = N at *
  generalize dayE y m d = E at *
  have DT := Lib.hid (fun w => DateOf_no n w hn)
  have WD := Lib.hid (fun w => Weekday_no n w hn)
  go_enter Try.func3, Try.ntmps3
  go_wp2_with fail
  refine (awake_any _).mono ?_
  rintro e w1 ⟨rfl, hb1⟩
  have A1 := Lib.hid ((D3.new w y m d).below hb1)
  obtain ⟨al1, a10, a11, a12⟩ := A1.out
  go_wp2_with fail
  refine (DO.out _).mono ?_
  rintro e w2 ⟨rfl, hb2⟩
  have A2 := Lib.hid (A1.out.below hb2)
  go_wp2_with fail
  refine (DT.out _).mono ?_
  rintro e w3 ⟨rfl, hb3⟩
  have A3 := Lib.hid (A2.out.below hb3)
  go_wp2_with fail
  refine (WD.out _).mono ?_
  rintro e w4 ⟨rfl, hb4⟩
  have A4 := Lib.hid ((A3.out.below ((Below.refl _ _).alloc (Nat.le_refl _) _)).below hb4)
  have B4 := Lib.hid ((D3.new w3 0 0 0).below hb4)
  obtain ⟨al4, a40, a41, a42⟩ := A4.out
  go_wp2_with fail
  refine (MonthDays_any _ _ _).mono ?_
  rintro e w' ⟨rfl, rfl⟩
  go_wp2_with fail
  refine (XO.out _).mono ?_
  rintro e w5 ⟨rfl, hb5⟩
  have A5 := Lib.hid (A4.out.below hb5)
  have B5 := Lib.hid (B4.out.below hb5)
  obtain ⟨al5, a50, a51, a52⟩ := A5.out
  obtain ⟨bl5, b50, b51, b52⟩ := B5.out
  clear a10 a11 a12 a40 a41 a42
  have q1 := hb1.size; have q2 := hb2.size; have q3 := hb3.size; have q4 := hb4.size; have q5 := hb5.size
  simp only [World.size_alloc] at q1 q4
  have BB : Below w.heap.size w w5 := (((((((Below.refl _ _).alloc (Nat.le_refl _) _).trans (hb1.mono (by simp))).trans (hb2.mono (by omega))).trans (hb3.mono (by omega))).alloc (by omega) _).trans (hb4.mono (by simp; omega))).trans (hb5.mono (by omega))
  clear hb1 hb2 hb3 hb4 hb5
  go_wp2_with (first
    | (go_at_call 20; refine (xIsYear_any _ _).mono ?_; rintro e w' ⟨rfl, rfl⟩)
    | (go_at_call 21; refine (bWithin_any _ _ _ _).mono ?_; rintro e w' ⟨rfl, rfl⟩)
    | (go_at_call 22; refine (xMonthDays_any _ _ _ (by omega) (by omega) (by omega) (by omega)).mono ?_; rintro e w' ⟨rfl, rfl⟩)
    | (go_at_call 23; refine (xIsDay_any _ _).mono ?_; rintro e w' ⟨rfl, rfl⟩))
  go_ret
  exact ⟨rfl, BB⟩
set_option maxRecDepth 100000 in
set_option maxHeartbeats 2000000 in
theorem RuleDates_3d (y m d n : Int) (w : World) (y1 : inB y 1800 2347 = true) (m1 : inB m 1 12 = true) (hn : inB n 0 200000 = true) :
    Calls Try.prog 3 #[.agg #[.int .i64 y, .int .i64 m, .int .i64 d], .int .i64 n] w (RetB (.bool true) w) := by
  have e1 : mdE y m = 0 := by simp [mdE, y1, m1]
  have e2 : mdN y m = Cal.md y m := by simp [mdN, e1]
  obtain ⟨ya, yb⟩ := inB_iff.1 y1
  obtain ⟨ma, mb⟩ := inB_iff.1 m1
  have DO := Lib.hid (fun w => (DayOf_any y m d w : Calls Try.prog 15 #[.agg #[.int .i64 y, .int .i64 m, .int .i64 d]] w (RetB (two (.int .i64 (dayN y m d)) (.int .i64 (dayE y m d))) w)))
  have XO := Lib.hid (fun w => (xDayOf_any y m d w : Calls Try.prog 19 #[.agg #[.int .i64 y, .int .i64 m, .int .i64 d]] w (RetB (two (.int .i64 (dayN y m d)) (.int .i64 (dayE y m d))) w)))
  have hEw : 0 ≤ dayE y m d ∧ dayE y m d ≤ 24 := by unfold dayE; (repeat' split) <;> omega
  generalize dayN y m d = N at *
  generalize dayE y m d = E at *
  obtain ⟨n0, n9⟩ := inB_iff.1 hn
  have DT := Lib.hid (fun w => DateOf_yes n w hn)
  have WD := Lib.hid (fun w => Weekday_any n w hn)
  have XD := Lib.hid (fun w => xDateOf_any n w n0 (by omega))
  have BK := Lib.hid (fun w => by have h := DayOf_any (Cal.yr n) (Cal.mo n) (Cal.da n) w; rw [day_back hn] at h; exact h)
  generalize Cal.yr n = Y at *
  generalize Cal.mo n = M at *
  generalize Cal.da n = D at *
  go_enter Try.func3, Try.ntmps3
  go_wp2_with fail
  refine (awake_any _).mono ?_
  rintro e w1 ⟨rfl, hb1⟩
  have A1 := Lib.hid ((D3.new w y m d).below hb1)
  obtain ⟨al1, a10, a11, a12⟩ := A1.out
  go_wp2_with fail
  refine (DO.out _).mono ?_
  rintro e w2 ⟨rfl, hb2⟩
  have A2 := Lib.hid (A1.out.below hb2)
  go_wp2_with fail
  refine (DT.out _).mono ?_
  rintro e w3 ⟨rfl, hb3⟩
  have A3 := Lib.hid (A2.out.below hb3)
  go_wp2_with fail
  refine (WD.out _).mono ?_
  rintro e w4 ⟨rfl, hb4⟩
  have A4 := Lib.hid ((A3.out.below ((Below.refl _ _).alloc (Nat.le_refl _) _)).below hb4)
  have B4 := Lib.hid ((D3.new w3 Y M D).below hb4)
  obtain ⟨al4, a40, a41, a42⟩ := A4.out
  go_wp2_with fail
  refine (MonthDays_any _ _ _).mono ?_
  rintro e w' ⟨rfl, rfl⟩
  go_wp2_with fail
  refine (XO.out _).mono ?_
  rintro e w5 ⟨rfl, hb5⟩
  have A5 := Lib.hid (A4.out.below hb5)
  have B5 := Lib.hid (B4.out.below hb5)
  obtain ⟨al5, a50, a51, a52⟩ := A5.out
  obtain ⟨bl5, b50, b51, b52⟩ := B5.out
  clear a10 a11 a12 a40 a41 a42
  have q1 := hb1.size; have q2 := hb2.size; have q3 := hb3.size; have q4 := hb4.size; have q5 := hb5.size
  simp only [World.size_alloc] at q1 q4
  have BB : Below w.heap.size w w5 := (((((((Below.refl _ _).alloc (Nat.le_refl _) _).trans (hb1.mono (by simp))).trans (hb2.mono (by omega))).trans (hb3.mono (by omega))).alloc (by omega) _).trans (hb4.mono (by simp; omega))).trans (hb5.mono (by omega))
  clear hb1 hb2 hb3 hb4 hb5
  go_wp2_with (first
    | (go_at_call 20; refine (xIsYear_any _ _).mono ?_; rintro e w' ⟨rfl, rfl⟩)
    | (go_at_call 21; refine (bWithin_any _ _ _ _).mono ?_; rintro e w' ⟨rfl, rfl⟩)
    | (go_at_call 22; refine (xMonthDays_any _ _ _ (by omega) (by omega) (by omega) (by omega)).mono ?_; rintro e w' ⟨rfl, rfl⟩)
    | (go_at_call 23; refine (xIsDay_any _ _).mono ?_; rintro e w' ⟨rfl, rfl⟩))
  go_region_held3 (fun w' => w'.cell? ⟨w3.heap.size, 0, none⟩ = some (.int .i64 Y) ∧ w'.cell? ⟨w3.heap.size, 1, none⟩ = some (.int .i64 M) ∧ w'.cell? ⟨w3.heap.size, 2, none⟩ = some (.int .i64 D)) (go_keep)
    (first
      | (go_at_call 24; refine (XD.out _).mono ?_; rintro e w6 ⟨rfl, hb6⟩; have k0 : w6.cell? ⟨w3.heap.size, 0, none⟩ = some (.int .i64 Y) := (hb6.cell (p := ⟨w3.heap.size, 0, none⟩) (by simpa using bl5)).trans (by simp [go_sem, b50]); have k1 : w6.cell? ⟨w3.heap.size, 1, none⟩ = some (.int .i64 M) := (hb6.cell (p := ⟨w3.heap.size, 1, none⟩) (by simpa using bl5)).trans (by simp [go_sem, b51]); have k2 : w6.cell? ⟨w3.heap.size, 2, none⟩ = some (.int .i64 D) := (hb6.cell (p := ⟨w3.heap.size, 2, none⟩) (by simpa using bl5)).trans (by simp [go_sem, b52]))
      | (go_at_call 25; refine (xWeekday_any _ _ (by omega) (by omega)).mono ?_; rintro e w' ⟨rfl, rfl⟩))
  all_goals
    have q6 := hb6.size
    simp at q6
    go_wp2_with fail
    refine (BK.out _).mono ?_
    rintro e w7 ⟨rfl, hb7⟩
    go_wp2
    go_ret
    exact ⟨rfl, ((below_dr BB).trans (hb6.mono (by simp; omega))).trans (hb7.mono (by omega))⟩
theorem RuleDates_any (y m d n : Int) (w : World) : Calls Try.prog 3 #[.agg #[.int .i64 y, .int .i64 m, .int .i64 d], .int .i64 n] w (RetB (.bool true) w) := by
  cases hn : inB n 0 200000 <;> cases y1 : inB y 1800 2347
  · exact RuleDates_1n y m d n w y1 hn
  · cases m1 : inB m 1 12
    · exact RuleDates_2n y m d n w y1 m1 hn
    · exact RuleDates_3n y m d n w y1 m1 hn
  · exact RuleDates_1d y m d n w y1 hn
  · cases m1 : inB m 1 12
    · exact RuleDates_2d y m d n w y1 m1 hn
    · exact RuleDates_3d y m d n w y1 m1 hn
end Go.Proofs.Ytfphedcgmaakjaa
