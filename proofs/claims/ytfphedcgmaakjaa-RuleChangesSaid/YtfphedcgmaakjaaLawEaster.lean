/-
  RuleEaster returns true for every year, in every world.
-/
import Derived.Test.YtfphedcgmaakjaaBelow
namespace Go.Proofs.Ytfphedcgmaakjaa
open Go.RowKit
attribute [local go_sem] set_drewN
def easterFacts (y : Int) : Bool := (est y + 2) % 7 == 6 && decide (114 ≤ en y) && decide (en y ≤ 148)
theorem easterFacts_all : (List.range 547).all (fun k => easterFacts (1800 + (k : Nat))) = true := by decide +kernel
theorem easterFacts_any {y : Int} (h0 : 1800 ≤ y) (h9 : y ≤ 2346) : (est y + 2) % 7 = 6 ∧ 114 ≤ en y ∧ en y ≤ 148 := by
  have := List.all_eq_true.1 easterFacts_all (y - 1800).toNat (List.mem_range.2 (by omega))
  rw [show (1800 : Int) + ((y - 1800).toNat : Nat) = y from by omega] at this
  simpa [easterFacts, and_assoc] using this
theorem est_date {y : Int} (h0 : 1800 ≤ y) (h9 : y ≤ 2346) : Cal.ok y (en y / 31) (en y % 31 + 1) := by
  obtain ⟨_, a, b⟩ := easterFacts_any h0 h9
  have hm : en y / 31 = 3 ∨ en y / 31 = 4 := by omega
  rcases hm with h | h
  · rw [h]; exact ⟨by omega, by omega, by omega, by rw [md_o (by omega) (by omega)]; omega⟩
  · rw [h]; exact ⟨by omega, by omega, by omega, by rw [md_n (by omega)]; omega⟩
theorem est_day {y : Int} (h0 : 1800 ≤ y) (h9 : y ≤ 2346) : 0 ≤ est y ∧ est y ≤ 200000 := by
  have a := Cal.ok_in _ _ _ (est_date h0 h9)
  have b := Cal.ny_mono 1800 y h0
  have c := Cal.ny_mono (y + 1) 2347 (by omega)
  rw [Cal.ny_1800] at b
  have e : Cal.ny 2347 ≤ 200000 := by decide
  unfold est; omega
set_option maxRecDepth 100000 in
set_option maxHeartbeats 1000000 in
theorem RuleEaster_any (y : Int) (w : World) : Calls Try.prog 6 #[.int .i64 y] w (RetB (.bool true) w) := by
  cases hy : inB y 1800 2346
  · go_enter Try.func6, Try.ntmps6
    go_wp2_with (first
      | (go_at_call 14; refine (awake_any _).mono ?_; rintro e w1 ⟨rfl, hb1⟩)
      | (go_at_call 30; refine (Easter_no _ _ hy).mono ?_; rintro e w2 ⟨rfl, hb2⟩)
      | (go_at_call 31; refine (xIsFull_any _ _).mono ?_; rintro e w' ⟨rfl, rfl⟩))
    go_ret
    exact ⟨rfl, hb1.trans (hb2.mono hb1.size)⟩
  · obtain ⟨h0, h9⟩ := inB_iff.1 hy
    obtain ⟨f1, f2, f3⟩ := easterFacts_any h0 h9
    obtain ⟨d0, d9⟩ := est_day h0 h9
    obtain ⟨u1, u2, u3⟩ := Cal.date_uniq d0 (est_date h0 h9) rfl
    have hE := fun w => Easter_yes y w h0 h9
    have hX := fun w => xEaster_any y w h0 (by omega)
    have hW := fun w => Weekday_any (est y) w (inB_yes d0 d9)
    have hD := fun w => DateOf_yes (est y) w (inB_yes d0 d9)
    rw [f1] at hW
    rw [← u1, ← u2, ← u3] at hD
    have hm : en y / 31 = 3 ∧ 22 ≤ en y % 31 + 1 ∨ en y / 31 = 4 ∧ en y % 31 + 1 ≤ 25 := by omega
    generalize est y = n at *
    generalize en y / 31 = m at *
    generalize en y % 31 + 1 = d at *
    have HE := Lib.hid hE
    have HX := Lib.hid hX
    have HW := Lib.hid hW
    have HD := Lib.hid hD
    clear hE hX hW hD u1 u2 u3 f1 f2 f3
    rcases hm with ⟨rfl, hd⟩ | ⟨rfl, hd⟩
    all_goals
      go_enter Try.func6, Try.ntmps6
      go_wp2_with (first
        | (go_at_call 14; refine (awake_any _).mono ?_; rintro e w1 ⟨rfl, hb1⟩)
        | (go_at_call 30; refine (HE.out _).mono ?_; rintro e w2 ⟨rfl, hb2⟩)
        | (go_at_call 31; refine (xIsFull_any _ _).mono ?_; rintro e w' ⟨rfl, rfl⟩)
        | (go_at_call 17; refine (HW.out _).mono ?_; rintro e w3 ⟨rfl, hb3⟩)
        | (go_at_call 16; refine (HD.out _).mono ?_; rintro e w4 ⟨rfl, hb4⟩)
        | (go_at_call 32; refine (HX.out _).mono ?_; rintro e w' ⟨rfl, rfl⟩))
      go_ret
      have s1 := hb1.size; have s2 := hb2.size; have s3 := hb3.size; have s4 := hb4.size
      exact ⟨rfl, (((hb1.trans (hb2.mono s1)).trans (hb3.mono (by omega))).trans (hb4.mono (by omega))).alloc (by omega) _⟩
end Go.Proofs.Ytfphedcgmaakjaa
