/-
  PersonPairs' law.
-/
import Derived.Test.YtfneafofohfdnaaLawTri
import Derived.Test.YtfneafofohfdnaaPaiM2
import Derived.Test.YtfneafofohfdnaaRCom
import Derived.Test.YtfneafofohfdnaaRTxt
import Derived.Test.YtfneafofohfdnaaRDst
namespace Go.Proofs.Ytfneafofohfdnaa
open Go.RowKit
set_option maxRecDepth 100000 in
set_option maxHeartbeats 8000000 in
theorem pai_long (a b : List UInt8) (w : World) (h : ¬ (a.length ≤ 200 ∧ b.length ≤ 200)) : Calls Try.prog 4 #[.string ⟨a.toArray⟩, .string ⟨b.toArray⟩] w (RetB (.bool true) w) := by
  by_cases ha : a.length ≤ 200
  · have ea : decide (a.length ≤ 200) = true := decide_eq_true ha
    have eb : decide (b.length ≤ 200) = false := decide_eq_false (fun hb => h ⟨ha, hb⟩)
    have A1 := Lib.hid (fun W => ea ▸ short_any a W)
    have A2 := Lib.hid (fun W => eb ▸ short_any b W)
    go_enter Try.func4, Try.ntmps4
    go_wp2_with (first
      | (go_at_call 8; refine (awake_any _).mono ?_; rintro e w1 ⟨rfl, hb1⟩)
      | (go_at_call 9; first | (with_reducible refine (A1.out _).mono ?_; rintro e w' ⟨rfl, rfl⟩) | (with_reducible refine (A2.out _).mono ?_; rintro e w' ⟨rfl, rfl⟩)))
    go_ret
    exact ⟨rfl, hb1⟩
  · have ea : decide (a.length ≤ 200) = false := decide_eq_false ha
    have A1 := Lib.hid (fun W => ea ▸ short_any a W)
    go_enter Try.func4, Try.ntmps4
    go_wp2_with (first
        | (go_at_call 8; refine (awake_any _).mono ?_; rintro e w1 ⟨rfl, hb1⟩)
        | (go_at_call 9; refine (A1.out _).mono ?_; rintro e w' ⟨rfl, rfl⟩))
    go_ret
    exact ⟨rfl, hb1⟩
set_option maxRecDepth 100000 in
set_option maxHeartbeats 8000000 in
theorem pai_bad (a b : List UInt8) (w : World) (la : a.length ≤ 200) (lb : b.length ≤ 200) (h : feE [nmE a, nmE b] ≠ 0) : Calls Try.prog 4 #[.string ⟨a.toArray⟩, .string ⟨b.toArray⟩] w (RetB (.bool true) w) := by
  have A1 := Lib.hid (fun W => (decide_eq_true la : decide (a.length ≤ 200) = true) ▸ short_any a W)
  have A2 := Lib.hid (fun W => (decide_eq_true lb : decide (b.length ≤ 200) = true) ▸ short_any b W)
  have C1 := Lib.hid (fun W => Common_any a b W (by omega) (by omega))
  have D1 := Lib.hid (fun W => Distance_any a b W (by omega) (by omega))
  have K1 := Lib.hid (fun W => xCheckName_any a W (by omega))
  have K2 := Lib.hid (fun W => xCheckName_any b W (by omega))
  rw [cmT_bad h] at C1
  rw [dsT_bad h] at D1
  by_cases ha : nmE a = 0
  · have hE : feE [nmE a, nmE b] = nmE b := by rw [ha]; rw [ha] at h; simp [feE] at h ⊢; intro e; exact e.symm
    rw [hE] at C1 D1 h
    rw [ha] at K1
    generalize nmE b = q at *
    have eq : (q != 0) = true := by simpa using h
    clear h ha hE
    go_enter Try.func4, Try.ntmps4
    go_wp2_with (first
      | (go_at_call 8; refine (awake_any _).mono ?_; rintro e w1 ⟨rfl, hb1⟩)
      | (go_at_call 9; first | (with_reducible refine (A1.out _).mono ?_; rintro e w' ⟨rfl, rfl⟩) | (with_reducible refine (A2.out _).mono ?_; rintro e w' ⟨rfl, rfl⟩))
      | (go_at_call 19; refine (C1.out _).mono ?_; rintro e w2 ⟨rfl, hb2⟩)
      | (go_at_call 20; refine (D1.out _).mono ?_; rintro e w3 ⟨rfl, hb3⟩)
      | (go_at_call 13; first | (with_reducible refine (K1.out _).mono ?_; rintro e w6 ⟨rfl, hb6⟩) | (with_reducible refine (K2.out _).mono ?_; rintro e w7 ⟨rfl, hb7⟩)))
    go_ret
    exact ⟨rfl, TriB hb1 hb2 hb3 hb6 hb7 (Below.refl _ _)⟩
  · have hE : feE [nmE a, nmE b] = nmE a := by simp [feE, ha]
    rw [hE] at C1 D1 h
    generalize nmE a = q at *
    have eq : (q != 0) = true := by simpa using h
    have eq2 : (q == 0) = false := by simpa using h
    clear h ha hE
    go_enter Try.func4, Try.ntmps4
    go_wp2_with (first
      | (go_at_call 8; refine (awake_any _).mono ?_; rintro e w1 ⟨rfl, hb1⟩)
      | (go_at_call 9; first | (with_reducible refine (A1.out _).mono ?_; rintro e w' ⟨rfl, rfl⟩) | (with_reducible refine (A2.out _).mono ?_; rintro e w' ⟨rfl, rfl⟩))
      | (go_at_call 19; refine (C1.out _).mono ?_; rintro e w2 ⟨rfl, hb2⟩)
      | (go_at_call 20; refine (D1.out _).mono ?_; rintro e w3 ⟨rfl, hb3⟩)
      | (go_at_call 13; refine (K1.out _).mono ?_; rintro e w6 ⟨rfl, hb6⟩))
    go_ret
    exact ⟨rfl, TriB hb1 hb2 hb3 hb6 (Below.refl _ _) (Below.refl _ _)⟩
end Go.Proofs.Ytfneafofohfdnaa
