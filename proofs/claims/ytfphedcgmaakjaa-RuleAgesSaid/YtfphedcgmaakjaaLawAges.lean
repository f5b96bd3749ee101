/-
  RuleAges returns true for every two days, in every world.
-/
import Derived.Test.YtfphedcgmaakjaaAgeX
import Derived.Deep.RegionHeld3
namespace Go.Proofs.Ytfphedcgmaakjaa
open Go.RowKit
attribute [local go_sem] set_drewN
set_option maxRecDepth 100000 in
set_option maxHeartbeats 1000000 in
theorem RuleAges_1 (a b : Int) (w : World) (h : inB a 0 200000 = false) : Calls Try.prog 5 #[.int .i64 a, .int .i64 b] w (RetB (.bool true) w) := by
  have HA := Lib.hid (fun w => Age_range a b w (Or.inl h))
  go_enter Try.func5, Try.ntmps5
  go_wp2_with (first
    | (go_at_call 14; refine (awake_any _).mono ?_; rintro e w1 ⟨rfl, hb1⟩)
    | (go_at_call 28; refine (HA.out _).mono ?_; rintro e w2 ⟨rfl, hb2⟩)
    | (go_at_call 23; refine (xIsDay_any _ _).mono ?_; rintro e w' ⟨rfl, rfl⟩))
  go_ret
  have s1 := hb1.size
  exact ⟨rfl, (hb1.trans (hb2.mono s1)).alloc (by have := hb2.size; omega) _⟩
set_option maxRecDepth 100000 in
set_option maxHeartbeats 1000000 in
theorem RuleAges_2 (a b : Int) (w : World) (h1 : inB a 0 200000 = true) (h : inB b 0 200000 = false) : Calls Try.prog 5 #[.int .i64 a, .int .i64 b] w (RetB (.bool true) w) := by
  have HA := Lib.hid (fun w => Age_range a b w (Or.inr h))
  go_enter Try.func5, Try.ntmps5
  go_wp2_with (first
    | (go_at_call 14; refine (awake_any _).mono ?_; rintro e w1 ⟨rfl, hb1⟩)
    | (go_at_call 28; refine (HA.out _).mono ?_; rintro e w2 ⟨rfl, hb2⟩)
    | (go_at_call 23; refine (xIsDay_any _ _).mono ?_; rintro e w' ⟨rfl, rfl⟩))
  go_ret
  have s1 := hb1.size
  exact ⟨rfl, (hb1.trans (hb2.mono s1)).alloc (by have := hb2.size; omega) _⟩
set_option maxRecDepth 100000 in
set_option maxHeartbeats 1000000 in
theorem RuleAges_3 (a b : Int) (w : World) (h1 : inB a 0 200000 = true) (h2 : inB b 0 200000 = true) (h : 22000 < b - a) : Calls Try.prog 5 #[.int .i64 a, .int .i64 b] w (RetB (.bool true) w) := by
  obtain ⟨a0, a9⟩ := inB_iff.1 h1
  obtain ⟨b0, b9⟩ := inB_iff.1 h2
  go_enter Try.func5, Try.ntmps5
  go_wp2_with (first
    | (go_at_call 14; refine (awake_any _).mono ?_; rintro e w1 ⟨rfl, hb1⟩)
    | (go_at_call 23; refine (xIsDay_any _ _).mono ?_; rintro e w' ⟨rfl, rfl⟩))
  go_ret
  exact ⟨rfl, hb1⟩
set_option maxRecDepth 100000 in
set_option maxHeartbeats 1000000 in
theorem RuleAges_4 (a b : Int) (w : World) (h1 : inB a 0 200000 = true) (h2 : inB b 0 200000 = true) (h : b < a) : Calls Try.prog 5 #[.int .i64 a, .int .i64 b] w (RetB (.bool true) w) := by
  obtain ⟨a0, a9⟩ := inB_iff.1 h1
  obtain ⟨b0, b9⟩ := inB_iff.1 h2
  have HA := Lib.hid (fun w => Age_order a b w h1 h2 h)
  have hn : ¬ 22000 < b - a := by omega
  go_enter Try.func5, Try.ntmps5
  go_wp2_with (first
    | (go_at_call 14; refine (awake_any _).mono ?_; rintro e w1 ⟨rfl, hb1⟩)
    | (go_at_call 28; refine (HA.out _).mono ?_; rintro e w2 ⟨rfl, hb2⟩)
    | (go_at_call 23; refine (xIsDay_any _ _).mono ?_; rintro e w' ⟨rfl, rfl⟩))
  go_ret
  have s1 := hb1.size
  exact ⟨rfl, (hb1.trans (hb2.mono s1)).alloc (by have := hb2.size; omega) _⟩
set_option maxRecDepth 100000 in
set_option maxHeartbeats 2000000 in
theorem RuleAges_5 (a b : Int) (w : World) (h1 : inB a 0 200000 = true) (h2 : inB b 0 200000 = true) (h : a ≤ b) (hn : ¬ 22000 < b - a) : Calls Try.prog 5 #[.int .i64 a, .int .i64 b] w (RetB (.bool true) w) := by
  obtain ⟨a0, a9⟩ := inB_iff.1 h1
  obtain ⟨b0, b9⟩ := inB_iff.1 h2
  obtain ⟨s1, s2, s3, _⟩ := age_spec a0 h b9
  have lo : 0 ≤ mlt a (ageM a b) := by
    have z := mlt_0 a0
    by_cases e : ageM a b = 0
    · rw [e, z]; omega
    · have := mlt_mono (n := a) (j := 0) (k := ageM a b) a0 (by omega); omega
  have HA := Lib.hid (fun w => Age_yes a b w h1 h2 h)
  have HX := Lib.hid (fun w => xAge_yes a b w h1 h2 h)
  generalize ageM a b = M at *
  have e12 : 12 * (M / 12) + M % 12 = M := by omega
  have am : amE a (12 * (M / 12) + M % 12) = 0 ∧ amN a (12 * (M / 12) + M % 12) = mlt a M := by
    rw [e12]; exact am_yes h1 (inB_yes (by omega) (by omega)) (inB_yes lo (by omega))
  have HM := Lib.hid (fun w => AddMonths_any a (12 * (M / 12) + M % 12) w)
  obtain ⟨am1, am2⟩ := am
  have hsum : (mlt a M + (b - mlt a M) == b) = true := by simp; omega
  have hge : 0 ≤ b - mlt a M := by omega
  clear e12
  go_enter Try.func5, Try.ntmps5
  go_wp2_with (first
    | (go_at_call 14; refine (awake_any _).mono ?_; rintro e w1 ⟨rfl, hb1⟩)
    | (go_at_call 28; refine (HA.out _).mono ?_; rintro e w2 ⟨rfl, hb2⟩)
    | (go_at_call 23; refine (xIsDay_any _ _).mono ?_; rintro e w' ⟨rfl, rfl⟩))
  go_region_held3 (fun w' => w'.cell? ⟨w2.heap.size, 0, none⟩ = some (.int .i64 (M / 12)) ∧ w'.cell? ⟨w2.heap.size, 1, none⟩ = some (.int .i64 (M % 12)) ∧ w'.cell? ⟨w2.heap.size, 2, none⟩ = some (.int .i64 (b - mlt a M))) (go_keep)
    (first
      | (go_at_call 29; refine (HX.out _).mono ?_; rintro e w3 ⟨rfl, hb3⟩; have k0 : w3.cell? ⟨w2.heap.size, 0, none⟩ = some (.int .i64 (M / 12)) := (hb3.cell (p := ⟨w2.heap.size, 0, none⟩) (by simp)).trans (by simp [go_sem]); have k1 : w3.cell? ⟨w2.heap.size, 1, none⟩ = some (.int .i64 (M % 12)) := (hb3.cell (p := ⟨w2.heap.size, 1, none⟩) (by simp)).trans (by simp [go_sem]); have k2 : w3.cell? ⟨w2.heap.size, 2, none⟩ = some (.int .i64 (b - mlt a M)) := (hb3.cell (p := ⟨w2.heap.size, 2, none⟩) (by simp)).trans (by simp [go_sem])))
  all_goals
    have t3 := hb3.size
    simp at t3
    go_wp2_with fail
    refine (HM.out _).mono ?_
    rintro e w4 ⟨rfl, hb4⟩
    have j2 : w4.cell? ⟨w2.heap.size, 2, none⟩ = some (.int .i64 (b - mlt a M)) := (hb4.cell (p := ⟨w2.heap.size, 2, none⟩) (by simp; omega)).trans k2
    go_wp2
    go_ret
    have t1 := hb1.size; have t2 := hb2.size
    exact ⟨rfl, ((below_dr ((hb1.trans (hb2.mono t1)).alloc (by omega) _)).trans (hb3.mono (by simp; omega))).trans (hb4.mono (by omega))⟩
theorem RuleAges_any (a b : Int) (w : World) : Calls Try.prog 5 #[.int .i64 a, .int .i64 b] w (RetB (.bool true) w) := by
  cases h1 : inB a 0 200000
  · exact RuleAges_1 a b w h1
  · cases h2 : inB b 0 200000
    · exact RuleAges_2 a b w h1 h2
    · by_cases h3 : 22000 < b - a
      · exact RuleAges_3 a b w h1 h2 h3
      · by_cases h4 : b < a
        · exact RuleAges_4 a b w h1 h2 h4
        · exact RuleAges_5 a b w h1 h2 (by omega) h3
end Go.Proofs.Ytfphedcgmaakjaa
