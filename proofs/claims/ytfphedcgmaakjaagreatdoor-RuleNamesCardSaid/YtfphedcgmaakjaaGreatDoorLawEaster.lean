/-
  RuleEaster returns true for every year, in every world.
-/
import Derived.Test.YtfphedcgmaakjaaGreatDoorBelow
namespace Go.Proofs.YtfphedcgmaakjaaGreatDoor
open Go.RowKit
attribute [local go_sem] set_drewN
def easterFacts (y : Int) : Bool := (est y + 2) % 7 == 6 && decide (114 ≤ en y) && decide (en y ≤ 148)
theorem easterFacts_all : (List.range 547).all (fun k => easterFacts (1800 + (k : Nat))) = true := by decide +kernel
theorem easterFacts_any {y : Int} (h0 : 1800 ≤ y) (h9 : y ≤ 2346) : (est y + 2) % 7 = 6 ∧ 114 ≤ en y ∧ en y ≤ 148 := by
  have := List.all_eq_true.1 easterFacts_all (y - 1800).toNat (List.mem_range.2 (by omega))
  rw [show (1800 : Int) + ((y - 1800).toNat : Nat) = y from by omega] at this
  simpa [easterFacts, and_assoc] using this
theorem est_date {y : Int} (h0 : 1800 ≤ y) (h9 : y ≤ 2346) : Cal.ok y (en y / 31) (en y % 31 + 1) := by
  obtain ⟨_, a, b⟩ := easterFacts_any h0 h9
  have hm : en y / 31 = 3 ∨ en y / 31 = 4 := by omega
  rcases hm with h | h
  · rw [h]; exact ⟨by omega, by omega, by omega, by rw [md_o (by omega) (by omega)]; omega⟩
  · rw [h]; exact ⟨by omega, by omega, by omega, by rw [md_n (by omega)]; omega⟩
theorem est_day {y : Int} (h0 : 1800 ≤ y) (h9 : y ≤ 2346) : 0 ≤ est y ∧ est y ≤ 200000 := by
  have a := Cal.ok_in _ _ _ (est_date h0 h9)
  have b := Cal.ny_mono 1800 y h0
  have c := Cal.ny_mono (y + 1) 2347 (by omega)
  rw [Cal.ny_1800] at b
  have e : Cal.ny 2347 ≤ 200000 := by decide
  unfold est; omega
end Go.Proofs.YtfphedcgmaakjaaGreatDoor
