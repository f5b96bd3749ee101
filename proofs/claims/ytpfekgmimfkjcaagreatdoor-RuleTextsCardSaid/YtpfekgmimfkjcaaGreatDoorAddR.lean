/-
  What AddMonths of package rule returns: contracts, each for all worlds.
-/
import Derived.Test.YtpfekgmimfkjcaaGreatDoorAddM
namespace Go.Proofs.YtpfekgmimfkjcaaGreatDoor
open Go.RowKit
attribute [local go_sem] set_drewN
theorem cdE_1 {n : Int} (h : inB n 0 200000 = true) : cdE [n] = 0 := by simp [cdE, h]
theorem cdE_1n {n : Int} (h : inB n 0 200000 = false) : cdE [n] = 2 := by simp [cdE, h]
theorem cdE_2 {n m : Int} (h : inB n 0 200000 = true) (h2 : inB m 0 200000 = true) : cdE [n, m] = 0 := by simp [cdE, h, h2]
theorem cdE_2n {n m : Int} (h : inB n 0 200000 = false ∨ inB m 0 200000 = false) : cdE [n, m] = 2 := by
  rcases h with h | h <;> simp [cdE, h]
/-- checkDays of one day, or of two, in a block of their own -/
theorem check1 (n : Int) (b cap : Nat) (w : World) (h : w.cell? ⟨b, 0, none⟩ = some (.int .i64 n)) :
    Calls Tryz.prog 43 #[.slice (some ⟨b, 0, none⟩) 1 cap] w (Ret (.int .i64 (cdE [n])) w) :=
  checkDays_any [n] b 0 cap w (by simp) (IntsAt.one h)
theorem check2 (n m : Int) (b cap : Nat) (w : World) (h : w.cell? ⟨b, 0, none⟩ = some (.int .i64 n)) (h2 : w.cell? ⟨b, 1, none⟩ = some (.int .i64 m)) :
    Calls Tryz.prog 43 #[.slice (some ⟨b, 0, none⟩) 2 cap] w (Ret (.int .i64 (cdE [n, m])) w) :=
  checkDays_any [n, m] b 0 cap w (by simp) (IntsAt.cons h (IntsAt.one h2))
end Go.Proofs.YtpfekgmimfkjcaaGreatDoor
