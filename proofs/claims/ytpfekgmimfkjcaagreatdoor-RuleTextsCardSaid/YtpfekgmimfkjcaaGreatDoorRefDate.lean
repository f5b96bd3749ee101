/-
  What DateOf of the specification of package rule returns: the date of a day, for days from 0 to 1000000; a contract for all worlds.
-/
import Derived.Test.YtpfekgmimfkjcaaGreatDoorDateOf
namespace Go.Proofs.YtpfekgmimfkjcaaGreatDoor
open Go.RowKit
attribute [local go_sem] set_drewN
abbrev z3 : Value → Value → Value → Obj := fun a b c => Obj.cells #[a, b, c] 48
end Go.Proofs.YtpfekgmimfkjcaaGreatDoor
