/-
  No cell of these rows narrows 'for every input' (looked for: loops, veiled, ifaces, maps, wideKeys, modest, calm, conditions, laid).
  DERIVED. THE GIVEN ROWS OF THIS SEAT. 8 by the template 'for every input the law returns true; each argument reads behind the call as it read before'; 0 by the template 'total and deterministic' (their statements: YtcimceepkjpggaaTotals.lean).
  GIVEN WITH THE SEED: the statements are not yours to turn. If you find one false, say at which input.
  Laid BY PROGRAM, IN A SANDBOX (cutbox-rows.mjs): the forced cells as the released guide's own fill.sh prints them over the translation be531bf99fa6d97c… (all of the seat's roots in one cut). By AI agents, Wed Nov 11 2026. No macro, syntax, notation, axiom, sorry.
-/
import Derived.Test.YtcimceepkjpggaaChecked
import GoSem.Claim
import GoSem.ClaimJoined
import GoSem.ClaimMapViews
import Derived.JoinedTies
import Derived.KernelRfl
namespace Go.Proofs.Ytcimceepkjpggaa
/- THE CELL 'sum', in the pinned program and in every row, IS THE sha256 OF THE DUMP (.gsa) THAT YtcimceepkjpggaaProg.lean LOADS. Nothing in Lean hashes anything: it is a label: what it is worth is what the hold of that sum in a sandbox is worth. -/
noncomputable def Try.pinned : Pinned := { name := "ytcimceepkjpggaa", sum := "be531bf99fa6d97cfc3ef2016d84b41113e8f8a28a453b8ca0a8464d32a7e712", checked := Try.checked }
namespace Rows
def none {H : Type} : Left H := { results := [], args := [] }

/-- 'mortsafelaw09.MoneyRates': WHATEVER THE INPUT: true; the input reads as it did. -/
def moneyRatesSpec : ChangeSpec := { name := "moneyRates", fn := fun _ => fun
  | [d1, d2, d3] => { results := [.lit (.bool true)], args := [d1, d2, d3] }
  | _ => none }
def moneyRatesRow : OpenClaim := { program := "ytcimceepkjpggaa", sum := "be531bf99fa6d97cfc3ef2016d84b41113e8f8a28a453b8ca0a8464d32a7e712", func := "mortsafe/mortsafelaw09.MoneyRates", spec := "moneyRates", unfollowed := true, recurses := true, plainKeys := false, apart := false }
def MoneyRatesSaid : Prop := moneyRatesRow.holds Try.pinned (OpenSpec.ofChange moneyRatesSpec)

/-- ITS FALSE NEIGHBOUR: 'it returns false'. Refute it at one input. -/
def moneyRatesWrong : ChangeSpec := { name := "moneyRates", fn := fun _ => fun
  | [d1, d2, d3] => { results := [.lit (.bool false)], args := [d1, d2, d3] }
  | _ => none }
def MoneyRatesWrongFalsely : Prop := moneyRatesRow.holds Try.pinned (OpenSpec.ofChange moneyRatesWrong)

/-- 'mortsafelaw09.MoneyRemissions': WHATEVER THE INPUT: true; the input reads as it did. -/
def moneyRemissionsSpec : ChangeSpec := { name := "moneyRemissions", fn := fun _ => fun
  | [d1, d2, d3] => { results := [.lit (.bool true)], args := [d1, d2, d3] }
  | _ => none }
def moneyRemissionsRow : OpenClaim := { program := "ytcimceepkjpggaa", sum := "be531bf99fa6d97cfc3ef2016d84b41113e8f8a28a453b8ca0a8464d32a7e712", func := "mortsafe/mortsafelaw09.MoneyRemissions", spec := "moneyRemissions", unfollowed := true, recurses := true, plainKeys := false, apart := false }
def MoneyRemissionsSaid : Prop := moneyRemissionsRow.holds Try.pinned (OpenSpec.ofChange moneyRemissionsSpec)

/-- ITS FALSE NEIGHBOUR: 'it returns false'. Refute it at one input. -/
def moneyRemissionsWrong : ChangeSpec := { name := "moneyRemissions", fn := fun _ => fun
  | [d1, d2, d3] => { results := [.lit (.bool false)], args := [d1, d2, d3] }
  | _ => none }
def MoneyRemissionsWrongFalsely : Prop := moneyRemissionsRow.holds Try.pinned (OpenSpec.ofChange moneyRemissionsWrong)

/-- 'mortsafelaw09.MoneyFees': WHATEVER THE INPUT: true; the input reads as it did. -/
def moneyFeesSpec : ChangeSpec := { name := "moneyFees", fn := fun _ => fun
  | [d1, d2, d3] => { results := [.lit (.bool true)], args := [d1, d2, d3] }
  | _ => none }
def moneyFeesRow : OpenClaim := { program := "ytcimceepkjpggaa", sum := "be531bf99fa6d97cfc3ef2016d84b41113e8f8a28a453b8ca0a8464d32a7e712", func := "mortsafe/mortsafelaw09.MoneyFees", spec := "moneyFees", unfollowed := true, recurses := true, plainKeys := false, apart := false }
def MoneyFeesSaid : Prop := moneyFeesRow.holds Try.pinned (OpenSpec.ofChange moneyFeesSpec)

/-- ITS FALSE NEIGHBOUR: 'it returns false'. Refute it at one input. -/
def moneyFeesWrong : ChangeSpec := { name := "moneyFees", fn := fun _ => fun
  | [d1, d2, d3] => { results := [.lit (.bool false)], args := [d1, d2, d3] }
  | _ => none }
def MoneyFeesWrongFalsely : Prop := moneyFeesRow.holds Try.pinned (OpenSpec.ofChange moneyFeesWrong)

/-- 'mortsafelaw09.MoneyRounds': WHATEVER THE INPUT: true; the input reads as it did. -/
def moneyRoundsSpec : ChangeSpec := { name := "moneyRounds", fn := fun _ => fun
  | [d1, d2, d3] => { results := [.lit (.bool true)], args := [d1, d2, d3] }
  | _ => none }
def moneyRoundsRow : OpenClaim := { program := "ytcimceepkjpggaa", sum := "be531bf99fa6d97cfc3ef2016d84b41113e8f8a28a453b8ca0a8464d32a7e712", func := "mortsafe/mortsafelaw09.MoneyRounds", spec := "moneyRounds", unfollowed := true, recurses := true, plainKeys := false, apart := false }
def MoneyRoundsSaid : Prop := moneyRoundsRow.holds Try.pinned (OpenSpec.ofChange moneyRoundsSpec)

/-- ITS FALSE NEIGHBOUR: 'it returns false'. Refute it at one input. -/
def moneyRoundsWrong : ChangeSpec := { name := "moneyRounds", fn := fun _ => fun
  | [d1, d2, d3] => { results := [.lit (.bool false)], args := [d1, d2, d3] }
  | _ => none }
def MoneyRoundsWrongFalsely : Prop := moneyRoundsRow.holds Try.pinned (OpenSpec.ofChange moneyRoundsWrong)

/-- 'mortsafelaw09.MoneyInstalments': WHATEVER THE INPUT: true; the input reads as it did. -/
def moneyInstalmentsSpec : ChangeSpec := { name := "moneyInstalments", fn := fun _ => fun
  | [d1, d2, d3] => { results := [.lit (.bool true)], args := [d1, d2, d3] }
  | _ => none }
def moneyInstalmentsRow : OpenClaim := { program := "ytcimceepkjpggaa", sum := "be531bf99fa6d97cfc3ef2016d84b41113e8f8a28a453b8ca0a8464d32a7e712", func := "mortsafe/mortsafelaw09.MoneyInstalments", spec := "moneyInstalments", unfollowed := true, recurses := true, plainKeys := false, apart := false }
def MoneyInstalmentsSaid : Prop := moneyInstalmentsRow.holds Try.pinned (OpenSpec.ofChange moneyInstalmentsSpec)

/-- ITS FALSE NEIGHBOUR: 'it returns false'. Refute it at one input. -/
def moneyInstalmentsWrong : ChangeSpec := { name := "moneyInstalments", fn := fun _ => fun
  | [d1, d2, d3] => { results := [.lit (.bool false)], args := [d1, d2, d3] }
  | _ => none }
def MoneyInstalmentsWrongFalsely : Prop := moneyInstalmentsRow.holds Try.pinned (OpenSpec.ofChange moneyInstalmentsWrong)

/-- 'mortsafelaw09.MoneyDues': WHATEVER THE INPUT: true; the input reads as it did. -/
def moneyDuesSpec : ChangeSpec := { name := "moneyDues", fn := fun _ => fun
  | [d1, d2, d3] => { results := [.lit (.bool true)], args := [d1, d2, d3] }
  | _ => none }
def moneyDuesRow : OpenClaim := { program := "ytcimceepkjpggaa", sum := "be531bf99fa6d97cfc3ef2016d84b41113e8f8a28a453b8ca0a8464d32a7e712", func := "mortsafe/mortsafelaw09.MoneyDues", spec := "moneyDues", unfollowed := true, recurses := true, plainKeys := false, apart := false }
def MoneyDuesSaid : Prop := moneyDuesRow.holds Try.pinned (OpenSpec.ofChange moneyDuesSpec)

/-- ITS FALSE NEIGHBOUR: 'it returns false'. Refute it at one input. -/
def moneyDuesWrong : ChangeSpec := { name := "moneyDues", fn := fun _ => fun
  | [d1, d2, d3] => { results := [.lit (.bool false)], args := [d1, d2, d3] }
  | _ => none }
def MoneyDuesWrongFalsely : Prop := moneyDuesRow.holds Try.pinned (OpenSpec.ofChange moneyDuesWrong)

/-- 'mortsafelaw09.MoneyShares': WHATEVER THE INPUT: true; the input reads as it did. -/
def moneySharesSpec : ChangeSpec := { name := "moneyShares", fn := fun _ => fun
  | [d1, d2] => { results := [.lit (.bool true)], args := [d1, d2] }
  | _ => none }
def moneySharesRow : OpenClaim := { program := "ytcimceepkjpggaa", sum := "be531bf99fa6d97cfc3ef2016d84b41113e8f8a28a453b8ca0a8464d32a7e712", func := "mortsafe/mortsafelaw09.MoneyShares", spec := "moneyShares", unfollowed := true, recurses := true, plainKeys := false, apart := false }
def MoneySharesSaid : Prop := moneySharesRow.holds Try.pinned (OpenSpec.ofChange moneySharesSpec)

/-- ITS FALSE NEIGHBOUR: 'it returns false'. Refute it at one input. -/
def moneySharesWrong : ChangeSpec := { name := "moneyShares", fn := fun _ => fun
  | [d1, d2] => { results := [.lit (.bool false)], args := [d1, d2] }
  | _ => none }
def MoneySharesWrongFalsely : Prop := moneySharesRow.holds Try.pinned (OpenSpec.ofChange moneySharesWrong)

/-- 'mortsafetop.TopInstalmentsAdd': WHATEVER THE INPUT: true; the input reads as it did. -/
def topInstalmentsAddSpec : ChangeSpec := { name := "topInstalmentsAdd", fn := fun _ => fun
  | [d] => { results := [.lit (.bool true)], args := [d] }
  | _ => none }
def topInstalmentsAddRow : OpenClaim := { program := "ytcimceepkjpggaa", sum := "be531bf99fa6d97cfc3ef2016d84b41113e8f8a28a453b8ca0a8464d32a7e712", func := "mortsafe/mortsafetop.TopInstalmentsAdd", spec := "topInstalmentsAdd", unfollowed := true, recurses := true, plainKeys := false, apart := false }
def TopInstalmentsAddSaid : Prop := topInstalmentsAddRow.holds Try.pinned (OpenSpec.ofChange topInstalmentsAddSpec)

/-- ITS FALSE NEIGHBOUR: 'it returns false'. Refute it at one input. -/
def topInstalmentsAddWrong : ChangeSpec := { name := "topInstalmentsAdd", fn := fun _ => fun
  | [d] => { results := [.lit (.bool false)], args := [d] }
  | _ => none }
def TopInstalmentsAddWrongFalsely : Prop := topInstalmentsAddRow.holds Try.pinned (OpenSpec.ofChange topInstalmentsAddWrong)

/- THE SECOND FORM. 'bulk': how many values and letters a reading holds, each counted each time it is reached (what is shared counts as often as it is met; a slice's spare places count too). A statement '..UptoSaid' is the law's where the arguments, and the package variables that the reading takes, are together of bulk at most 1048576: NARROWER than '..Said'. Prove '..Said' where nothing that the law and all that it calls make is longer than what came in: it says more and counts as full. Else prove '..UptoSaid'. A law counts once. -/
mutual
def uptoBulk {H : Type} : DataW H → Nat
  | .lit (.string bytes) => bytes.length + 1
  | .lit _ => 1
  | .nil => 1
  | .ptr d => uptoBulk d + 1
  | .slice elems spare => uptoBulkAll elems + uptoBulkAll spare + 1
  | .agg parts => uptoBulkAll parts + 1
  | .iface _ d => uptoBulk d + 1
  | .map entries => uptoBulkEntries entries + 1
  | .held _ => 1
def uptoBulkAll {H : Type} : List (DataW H) → Nat
  | [] => 0
  | d :: r => uptoBulk d + uptoBulkAll r
def uptoBulkEntries {H : Type} : List (Lit × DataW H) → Nat
  | [] => 0
  | x :: r => uptoBulkEntry x + uptoBulkEntries r
def uptoBulkEntry {H : Type} : Lit × DataW H → Nat
  | (.string bytes, d) => bytes.length + uptoBulk d + 1
  | (_, d) => uptoBulk d + 1
 end
def uptoSmall : (H : Type) → List (DataW H) → Bool := fun _ ds => decide (uptoBulkAll ds ≤ 1048576)
def OpenSpec.upto (s : _root_.Go.ChangeSpec) : _root_.Go.OpenSpec := { _root_.Go.OpenSpec.ofChange s with cond := some uptoSmall }

/-- 'mortsafelaw09.MoneyRates', WHERE WHAT IT READS IS OF BULK AT MOST 1048576: true; the input reads as it did. -/
def moneyRatesUptoRow : OpenClaim := { program := "ytcimceepkjpggaa", sum := "be531bf99fa6d97cfc3ef2016d84b41113e8f8a28a453b8ca0a8464d32a7e712", func := "mortsafe/mortsafelaw09.MoneyRates", spec := "moneyRates", unfollowed := true, recurses := true, plainKeys := false, apart := false, narrowed := true }
def MoneyRatesUptoSaid : Prop := moneyRatesUptoRow.holds Try.pinned (OpenSpec.upto moneyRatesSpec)

/-- 'mortsafelaw09.MoneyRemissions', WHERE WHAT IT READS IS OF BULK AT MOST 1048576: true; the input reads as it did. -/
def moneyRemissionsUptoRow : OpenClaim := { program := "ytcimceepkjpggaa", sum := "be531bf99fa6d97cfc3ef2016d84b41113e8f8a28a453b8ca0a8464d32a7e712", func := "mortsafe/mortsafelaw09.MoneyRemissions", spec := "moneyRemissions", unfollowed := true, recurses := true, plainKeys := false, apart := false, narrowed := true }
def MoneyRemissionsUptoSaid : Prop := moneyRemissionsUptoRow.holds Try.pinned (OpenSpec.upto moneyRemissionsSpec)

/-- 'mortsafelaw09.MoneyFees', WHERE WHAT IT READS IS OF BULK AT MOST 1048576: true; the input reads as it did. -/
def moneyFeesUptoRow : OpenClaim := { program := "ytcimceepkjpggaa", sum := "be531bf99fa6d97cfc3ef2016d84b41113e8f8a28a453b8ca0a8464d32a7e712", func := "mortsafe/mortsafelaw09.MoneyFees", spec := "moneyFees", unfollowed := true, recurses := true, plainKeys := false, apart := false, narrowed := true }
def MoneyFeesUptoSaid : Prop := moneyFeesUptoRow.holds Try.pinned (OpenSpec.upto moneyFeesSpec)

/-- 'mortsafelaw09.MoneyRounds', WHERE WHAT IT READS IS OF BULK AT MOST 1048576: true; the input reads as it did. -/
def moneyRoundsUptoRow : OpenClaim := { program := "ytcimceepkjpggaa", sum := "be531bf99fa6d97cfc3ef2016d84b41113e8f8a28a453b8ca0a8464d32a7e712", func := "mortsafe/mortsafelaw09.MoneyRounds", spec := "moneyRounds", unfollowed := true, recurses := true, plainKeys := false, apart := false, narrowed := true }
def MoneyRoundsUptoSaid : Prop := moneyRoundsUptoRow.holds Try.pinned (OpenSpec.upto moneyRoundsSpec)

/-- 'mortsafelaw09.MoneyInstalments', WHERE WHAT IT READS IS OF BULK AT MOST 1048576: true; the input reads as it did. -/
def moneyInstalmentsUptoRow : OpenClaim := { program := "ytcimceepkjpggaa", sum := "be531bf99fa6d97cfc3ef2016d84b41113e8f8a28a453b8ca0a8464d32a7e712", func := "mortsafe/mortsafelaw09.MoneyInstalments", spec := "moneyInstalments", unfollowed := true, recurses := true, plainKeys := false, apart := false, narrowed := true }
def MoneyInstalmentsUptoSaid : Prop := moneyInstalmentsUptoRow.holds Try.pinned (OpenSpec.upto moneyInstalmentsSpec)

/-- 'mortsafelaw09.MoneyDues', WHERE WHAT IT READS IS OF BULK AT MOST 1048576: true; the input reads as it did. -/
def moneyDuesUptoRow : OpenClaim := { program := "ytcimceepkjpggaa", sum := "be531bf99fa6d97cfc3ef2016d84b41113e8f8a28a453b8ca0a8464d32a7e712", func := "mortsafe/mortsafelaw09.MoneyDues", spec := "moneyDues", unfollowed := true, recurses := true, plainKeys := false, apart := false, narrowed := true }
def MoneyDuesUptoSaid : Prop := moneyDuesUptoRow.holds Try.pinned (OpenSpec.upto moneyDuesSpec)

/-- 'mortsafelaw09.MoneyShares', WHERE WHAT IT READS IS OF BULK AT MOST 1048576: true; the input reads as it did. -/
def moneySharesUptoRow : OpenClaim := { program := "ytcimceepkjpggaa", sum := "be531bf99fa6d97cfc3ef2016d84b41113e8f8a28a453b8ca0a8464d32a7e712", func := "mortsafe/mortsafelaw09.MoneyShares", spec := "moneyShares", unfollowed := true, recurses := true, plainKeys := false, apart := false, narrowed := true }
def MoneySharesUptoSaid : Prop := moneySharesUptoRow.holds Try.pinned (OpenSpec.upto moneySharesSpec)

/-- 'mortsafetop.TopInstalmentsAdd', WHERE WHAT IT READS IS OF BULK AT MOST 1048576: true; the input reads as it did. -/
def topInstalmentsAddUptoRow : OpenClaim := { program := "ytcimceepkjpggaa", sum := "be531bf99fa6d97cfc3ef2016d84b41113e8f8a28a453b8ca0a8464d32a7e712", func := "mortsafe/mortsafetop.TopInstalmentsAdd", spec := "topInstalmentsAdd", unfollowed := true, recurses := true, plainKeys := false, apart := false, narrowed := true }
def TopInstalmentsAddUptoSaid : Prop := topInstalmentsAddUptoRow.holds Try.pinned (OpenSpec.upto topInstalmentsAddSpec)

end Rows
end Go.Proofs.Ytcimceepkjpggaa
