/-
  What Source of the specification of package rule, and atErr and Laws of the statements, return: contracts.
-/
import Derived.Test.YtpfekgmimfkjcaaGreatDoorRefSrc
namespace Go.Proofs.YtpfekgmimfkjcaaGreatDoor
open Go.RowKit
attribute [local go_sem] set_drewN
theorem str_ne {a b : ByteArray} (h : ¬ a = b) : (a.toList == b.toList) = false := by
  rw [beq_eq_false_iff_ne]
  intro c
  rw [ByteArray.toList_eq, ByteArray.toList_eq] at c
  exact h (keyL_inj (by rw [keyL, keyL, c]))
/-- the number that decides, or -1 -/
def srcI : Option Nat → Int
  | none => -1
  | some i => i
/-- the error of a list and a pair of days, in the words of the specification -/
theorem srcE_1 {l : List Pv} {a0 a1 : Int} (h : cpE l ≠ 0) : srcE l a0 a1 = cpE l := by unfold srcE feE; rw [if_neg h]
theorem srcE_2 {l : List Pv} {a0 a1 : Int} (h : cpE l = 0) : srcE l a0 a1 = cdE [a0, a1] := by
  unfold srcE feE; rw [if_pos h]
  unfold feE; split
  · rename_i e; rw [e]; rfl
  · rfl
end Go.Proofs.YtpfekgmimfkjcaaGreatDoor
