/-
  No cell of these rows narrows 'for every input' (looked for: loops, veiled, ifaces, maps, wideKeys, modest, calm, conditions, laid).
  DERIVED. THE GIVEN ROWS OF THIS SEAT. 11 by the template 'for every input the law returns true; each argument reads behind the call as it read before'; 0 by the template 'total and deterministic' (their statements: YtfphedcgmaakjaaTotals.lean).
  GIVEN WITH THE SEED: the statements are not yours to turn. If you find one false, say at which input.
  Laid BY PROGRAM, IN A SANDBOX (cutbox-rows.mjs): the forced cells as the released guide's own fill.sh prints them over the translation 4f419358eb1d465f… (all of the seat's roots in one cut). By AI agents, Wed Nov 11 2026. No macro, syntax, notation, axiom, sorry.
-/
import Derived.Test.YtfphedcgmaakjaaChecked
import GoSem.Claim
import GoSem.ClaimJoined
import GoSem.ClaimMapViews
import Derived.JoinedTies
import Derived.KernelRfl
namespace Go.Proofs.Ytfphedcgmaakjaa
/- THE CELL 'sum', in the pinned program and in every row, IS THE sha256 OF THE DUMP (.gsa) THAT YtfphedcgmaakjaaProg.lean LOADS. Nothing in Lean hashes anything: it is a label: what it is worth is what the hold of that sum in a sandbox is worth. -/
noncomputable def Try.pinned : Pinned := { name := "ytfphedcgmaakjaa", sum := "4f419358eb1d465fffee47f229bc753c07e648349565c50531e910ad92c81d02", checked := Try.checked }
namespace Rows
def none {H : Type} : Left H := { results := [], args := [] }

/-- 'mortsafelaw02.RuleDates': WHATEVER THE INPUT: true; the input reads as it did. -/
def ruleDatesSpec : ChangeSpec := { name := "ruleDates", fn := fun _ => fun
  | [d1, d2] => { results := [.lit (.bool true)], args := [d1, d2] }
  | _ => none }
def ruleDatesRow : OpenClaim := { program := "ytfphedcgmaakjaa", sum := "4f419358eb1d465fffee47f229bc753c07e648349565c50531e910ad92c81d02", func := "mortsafe/mortsafelaw02.RuleDates", spec := "ruleDates", unfollowed := true, recurses := true, apart := false }
def RuleDatesSaid : Prop := ruleDatesRow.holds Try.pinned (OpenSpec.ofChange ruleDatesSpec)

/-- ITS FALSE NEIGHBOUR: 'it returns false'. Refute it at one input. -/
def ruleDatesWrong : ChangeSpec := { name := "ruleDates", fn := fun _ => fun
  | [d1, d2] => { results := [.lit (.bool false)], args := [d1, d2] }
  | _ => none }
def RuleDatesWrongFalsely : Prop := ruleDatesRow.holds Try.pinned (OpenSpec.ofChange ruleDatesWrong)

/-- 'mortsafelaw02.RuleMonths': WHATEVER THE INPUT: true; the input reads as it did. -/
def ruleMonthsSpec : ChangeSpec := { name := "ruleMonths", fn := fun _ => fun
  | [d1, d2] => { results := [.lit (.bool true)], args := [d1, d2] }
  | _ => none }
def ruleMonthsRow : OpenClaim := { program := "ytfphedcgmaakjaa", sum := "4f419358eb1d465fffee47f229bc753c07e648349565c50531e910ad92c81d02", func := "mortsafe/mortsafelaw02.RuleMonths", spec := "ruleMonths", unfollowed := true, recurses := true, apart := false }
def RuleMonthsSaid : Prop := ruleMonthsRow.holds Try.pinned (OpenSpec.ofChange ruleMonthsSpec)

/-- ITS FALSE NEIGHBOUR: 'it returns false'. Refute it at one input. -/
def ruleMonthsWrong : ChangeSpec := { name := "ruleMonths", fn := fun _ => fun
  | [d1, d2] => { results := [.lit (.bool false)], args := [d1, d2] }
  | _ => none }
def RuleMonthsWrongFalsely : Prop := ruleMonthsRow.holds Try.pinned (OpenSpec.ofChange ruleMonthsWrong)

/-- 'mortsafelaw02.RuleAges': WHATEVER THE INPUT: true; the input reads as it did. -/
def ruleAgesSpec : ChangeSpec := { name := "ruleAges", fn := fun _ => fun
  | [d1, d2] => { results := [.lit (.bool true)], args := [d1, d2] }
  | _ => none }
def ruleAgesRow : OpenClaim := { program := "ytfphedcgmaakjaa", sum := "4f419358eb1d465fffee47f229bc753c07e648349565c50531e910ad92c81d02", func := "mortsafe/mortsafelaw02.RuleAges", spec := "ruleAges", unfollowed := true, recurses := true, apart := false }
def RuleAgesSaid : Prop := ruleAgesRow.holds Try.pinned (OpenSpec.ofChange ruleAgesSpec)

/-- ITS FALSE NEIGHBOUR: 'it returns false'. Refute it at one input. -/
def ruleAgesWrong : ChangeSpec := { name := "ruleAges", fn := fun _ => fun
  | [d1, d2] => { results := [.lit (.bool false)], args := [d1, d2] }
  | _ => none }
def RuleAgesWrongFalsely : Prop := ruleAgesRow.holds Try.pinned (OpenSpec.ofChange ruleAgesWrong)

/-- 'mortsafelaw02.RuleEaster': WHATEVER THE INPUT: true; the input reads as it did. -/
def ruleEasterSpec : ChangeSpec := { name := "ruleEaster", fn := fun _ => fun
  | [d] => { results := [.lit (.bool true)], args := [d] }
  | _ => none }
def ruleEasterRow : OpenClaim := { program := "ytfphedcgmaakjaa", sum := "4f419358eb1d465fffee47f229bc753c07e648349565c50531e910ad92c81d02", func := "mortsafe/mortsafelaw02.RuleEaster", spec := "ruleEaster", unfollowed := true, recurses := true, apart := false }
def RuleEasterSaid : Prop := ruleEasterRow.holds Try.pinned (OpenSpec.ofChange ruleEasterSpec)

/-- ITS FALSE NEIGHBOUR: 'it returns false'. Refute it at one input. -/
def ruleEasterWrong : ChangeSpec := { name := "ruleEaster", fn := fun _ => fun
  | [d] => { results := [.lit (.bool false)], args := [d] }
  | _ => none }
def RuleEasterWrongFalsely : Prop := ruleEasterRow.holds Try.pinned (OpenSpec.ofChange ruleEasterWrong)

/-- 'mortsafelaw02.RuleHolidays': WHATEVER THE INPUT: true; the input reads as it did. -/
def ruleHolidaysSpec : ChangeSpec := { name := "ruleHolidays", fn := fun _ => fun
  | [d1, d2] => { results := [.lit (.bool true)], args := [d1, d2] }
  | _ => none }
def ruleHolidaysRow : OpenClaim := { program := "ytfphedcgmaakjaa", sum := "4f419358eb1d465fffee47f229bc753c07e648349565c50531e910ad92c81d02", func := "mortsafe/mortsafelaw02.RuleHolidays", spec := "ruleHolidays", unfollowed := true, recurses := true, apart := false }
def RuleHolidaysSaid : Prop := ruleHolidaysRow.holds Try.pinned (OpenSpec.ofChange ruleHolidaysSpec)

/-- ITS FALSE NEIGHBOUR: 'it returns false'. Refute it at one input. -/
def ruleHolidaysWrong : ChangeSpec := { name := "ruleHolidays", fn := fun _ => fun
  | [d1, d2] => { results := [.lit (.bool false)], args := [d1, d2] }
  | _ => none }
def RuleHolidaysWrongFalsely : Prop := ruleHolidaysRow.holds Try.pinned (OpenSpec.ofChange ruleHolidaysWrong)

/-- 'mortsafelaw02.RuleWorking': WHATEVER THE INPUT: true; the input reads as it did. -/
def ruleWorkingSpec : ChangeSpec := { name := "ruleWorking", fn := fun _ => fun
  | [d1, d2, d3] => { results := [.lit (.bool true)], args := [d1, d2, d3] }
  | _ => none }
def ruleWorkingRow : OpenClaim := { program := "ytfphedcgmaakjaa", sum := "4f419358eb1d465fffee47f229bc753c07e648349565c50531e910ad92c81d02", func := "mortsafe/mortsafelaw02.RuleWorking", spec := "ruleWorking", unfollowed := true, recurses := true, apart := false }
def RuleWorkingSaid : Prop := ruleWorkingRow.holds Try.pinned (OpenSpec.ofChange ruleWorkingSpec)

/-- ITS FALSE NEIGHBOUR: 'it returns false'. Refute it at one input. -/
def ruleWorkingWrong : ChangeSpec := { name := "ruleWorking", fn := fun _ => fun
  | [d1, d2, d3] => { results := [.lit (.bool false)], args := [d1, d2, d3] }
  | _ => none }
def RuleWorkingWrongFalsely : Prop := ruleWorkingRow.holds Try.pinned (OpenSpec.ofChange ruleWorkingWrong)

/-- 'mortsafelaw02.RuleBetween': WHATEVER THE INPUT: true; the input reads as it did. -/
def ruleBetweenSpec : ChangeSpec := { name := "ruleBetween", fn := fun _ => fun
  | [d1, d2, d3] => { results := [.lit (.bool true)], args := [d1, d2, d3] }
  | _ => none }
def ruleBetweenRow : OpenClaim := { program := "ytfphedcgmaakjaa", sum := "4f419358eb1d465fffee47f229bc753c07e648349565c50531e910ad92c81d02", func := "mortsafe/mortsafelaw02.RuleBetween", spec := "ruleBetween", unfollowed := true, recurses := true, apart := false }
def RuleBetweenSaid : Prop := ruleBetweenRow.holds Try.pinned (OpenSpec.ofChange ruleBetweenSpec)

/-- ITS FALSE NEIGHBOUR: 'it returns false'. Refute it at one input. -/
def ruleBetweenWrong : ChangeSpec := { name := "ruleBetween", fn := fun _ => fun
  | [d1, d2, d3] => { results := [.lit (.bool false)], args := [d1, d2, d3] }
  | _ => none }
def RuleBetweenWrongFalsely : Prop := ruleBetweenRow.holds Try.pinned (OpenSpec.ofChange ruleBetweenWrong)

/-- 'mortsafelaw02.RuleDeadlines': WHATEVER THE INPUT: true; the input reads as it did. -/
def ruleDeadlinesSpec : ChangeSpec := { name := "ruleDeadlines", fn := fun _ => fun
  | [d1, d2, d3] => { results := [.lit (.bool true)], args := [d1, d2, d3] }
  | _ => none }
def ruleDeadlinesRow : OpenClaim := { program := "ytfphedcgmaakjaa", sum := "4f419358eb1d465fffee47f229bc753c07e648349565c50531e910ad92c81d02", func := "mortsafe/mortsafelaw02.RuleDeadlines", spec := "ruleDeadlines", unfollowed := true, recurses := true, apart := false }
def RuleDeadlinesSaid : Prop := ruleDeadlinesRow.holds Try.pinned (OpenSpec.ofChange ruleDeadlinesSpec)

/-- ITS FALSE NEIGHBOUR: 'it returns false'. Refute it at one input. -/
def ruleDeadlinesWrong : ChangeSpec := { name := "ruleDeadlines", fn := fun _ => fun
  | [d1, d2, d3] => { results := [.lit (.bool false)], args := [d1, d2, d3] }
  | _ => none }
def RuleDeadlinesWrongFalsely : Prop := ruleDeadlinesRow.holds Try.pinned (OpenSpec.ofChange ruleDeadlinesWrong)

/-- 'mortsafelaw02.RuleProvisions': WHATEVER THE INPUT: true; the input reads as it did. -/
def ruleProvisionsSpec : ChangeSpec := { name := "ruleProvisions", fn := fun _ => fun
  | [d1, d2] => { results := [.lit (.bool true)], args := [d1, d2] }
  | _ => none }
def ruleProvisionsRow : OpenClaim := { program := "ytfphedcgmaakjaa", sum := "4f419358eb1d465fffee47f229bc753c07e648349565c50531e910ad92c81d02", func := "mortsafe/mortsafelaw02.RuleProvisions", spec := "ruleProvisions", unfollowed := true, recurses := true, apart := false }
def RuleProvisionsSaid : Prop := ruleProvisionsRow.holds Try.pinned (OpenSpec.ofChange ruleProvisionsSpec)

/-- ITS FALSE NEIGHBOUR: 'it returns false'. Refute it at one input. -/
def ruleProvisionsWrong : ChangeSpec := { name := "ruleProvisions", fn := fun _ => fun
  | [d1, d2] => { results := [.lit (.bool false)], args := [d1, d2] }
  | _ => none }
def RuleProvisionsWrongFalsely : Prop := ruleProvisionsRow.holds Try.pinned (OpenSpec.ofChange ruleProvisionsWrong)

/-- 'mortsafelaw02.RuleSources': WHATEVER THE INPUT: true; the input reads as it did. -/
def ruleSourcesSpec : ChangeSpec := { name := "ruleSources", fn := fun _ => fun
  | [d1, d2, d3] => { results := [.lit (.bool true)], args := [d1, d2, d3] }
  | _ => none }
def ruleSourcesRow : OpenClaim := { program := "ytfphedcgmaakjaa", sum := "4f419358eb1d465fffee47f229bc753c07e648349565c50531e910ad92c81d02", func := "mortsafe/mortsafelaw02.RuleSources", spec := "ruleSources", unfollowed := true, recurses := true, apart := false }
def RuleSourcesSaid : Prop := ruleSourcesRow.holds Try.pinned (OpenSpec.ofChange ruleSourcesSpec)

/-- ITS FALSE NEIGHBOUR: 'it returns false'. Refute it at one input. -/
def ruleSourcesWrong : ChangeSpec := { name := "ruleSources", fn := fun _ => fun
  | [d1, d2, d3] => { results := [.lit (.bool false)], args := [d1, d2, d3] }
  | _ => none }
def RuleSourcesWrongFalsely : Prop := ruleSourcesRow.holds Try.pinned (OpenSpec.ofChange ruleSourcesWrong)

/-- 'mortsafelaw02.RuleChanges': WHATEVER THE INPUT: true; the input reads as it did. -/
def ruleChangesSpec : ChangeSpec := { name := "ruleChanges", fn := fun _ => fun
  | [d1, d2, d3] => { results := [.lit (.bool true)], args := [d1, d2, d3] }
  | _ => none }
def ruleChangesRow : OpenClaim := { program := "ytfphedcgmaakjaa", sum := "4f419358eb1d465fffee47f229bc753c07e648349565c50531e910ad92c81d02", func := "mortsafe/mortsafelaw02.RuleChanges", spec := "ruleChanges", unfollowed := true, recurses := true, apart := false }
def RuleChangesSaid : Prop := ruleChangesRow.holds Try.pinned (OpenSpec.ofChange ruleChangesSpec)

/-- ITS FALSE NEIGHBOUR: 'it returns false'. Refute it at one input. -/
def ruleChangesWrong : ChangeSpec := { name := "ruleChanges", fn := fun _ => fun
  | [d1, d2, d3] => { results := [.lit (.bool false)], args := [d1, d2, d3] }
  | _ => none }
def RuleChangesWrongFalsely : Prop := ruleChangesRow.holds Try.pinned (OpenSpec.ofChange ruleChangesWrong)

/- THE SECOND FORM. 'bulk': how many values and letters a reading holds, each counted each time it is reached (what is shared counts as often as it is met; a slice's spare places count too). A statement '..UptoSaid' is the law's where the arguments, and the package variables that the reading takes, are together of bulk at most 1048576: NARROWER than '..Said'. Prove '..Said' where nothing that the law and all that it calls make is longer than what came in: it says more and counts as full. Else prove '..UptoSaid'. A law counts once. -/
mutual
def uptoBulk {H : Type} : DataW H → Nat
  | .lit (.string bytes) => bytes.length + 1
  | .lit _ => 1
  | .nil => 1
  | .ptr d => uptoBulk d + 1
  | .slice elems spare => uptoBulkAll elems + uptoBulkAll spare + 1
  | .agg parts => uptoBulkAll parts + 1
  | .iface _ d => uptoBulk d + 1
  | .map entries => uptoBulkEntries entries + 1
  | .held _ => 1
def uptoBulkAll {H : Type} : List (DataW H) → Nat
  | [] => 0
  | d :: r => uptoBulk d + uptoBulkAll r
def uptoBulkEntries {H : Type} : List (Lit × DataW H) → Nat
  | [] => 0
  | x :: r => uptoBulkEntry x + uptoBulkEntries r
def uptoBulkEntry {H : Type} : Lit × DataW H → Nat
  | (.string bytes, d) => bytes.length + uptoBulk d + 1
  | (_, d) => uptoBulk d + 1
 end
def uptoSmall : (H : Type) → List (DataW H) → Bool := fun _ ds => decide (uptoBulkAll ds ≤ 1048576)
def OpenSpec.upto (s : _root_.Go.ChangeSpec) : _root_.Go.OpenSpec := { _root_.Go.OpenSpec.ofChange s with cond := some uptoSmall }

/-- 'mortsafelaw02.RuleDates', WHERE WHAT IT READS IS OF BULK AT MOST 1048576: true; the input reads as it did. -/
def ruleDatesUptoRow : OpenClaim := { program := "ytfphedcgmaakjaa", sum := "4f419358eb1d465fffee47f229bc753c07e648349565c50531e910ad92c81d02", func := "mortsafe/mortsafelaw02.RuleDates", spec := "ruleDates", unfollowed := true, recurses := true, apart := false, narrowed := true }
def RuleDatesUptoSaid : Prop := ruleDatesUptoRow.holds Try.pinned (OpenSpec.upto ruleDatesSpec)

/-- 'mortsafelaw02.RuleMonths', WHERE WHAT IT READS IS OF BULK AT MOST 1048576: true; the input reads as it did. -/
def ruleMonthsUptoRow : OpenClaim := { program := "ytfphedcgmaakjaa", sum := "4f419358eb1d465fffee47f229bc753c07e648349565c50531e910ad92c81d02", func := "mortsafe/mortsafelaw02.RuleMonths", spec := "ruleMonths", unfollowed := true, recurses := true, apart := false, narrowed := true }
def RuleMonthsUptoSaid : Prop := ruleMonthsUptoRow.holds Try.pinned (OpenSpec.upto ruleMonthsSpec)

/-- 'mortsafelaw02.RuleAges', WHERE WHAT IT READS IS OF BULK AT MOST 1048576: true; the input reads as it did. -/
def ruleAgesUptoRow : OpenClaim := { program := "ytfphedcgmaakjaa", sum := "4f419358eb1d465fffee47f229bc753c07e648349565c50531e910ad92c81d02", func := "mortsafe/mortsafelaw02.RuleAges", spec := "ruleAges", unfollowed := true, recurses := true, apart := false, narrowed := true }
def RuleAgesUptoSaid : Prop := ruleAgesUptoRow.holds Try.pinned (OpenSpec.upto ruleAgesSpec)

/-- 'mortsafelaw02.RuleEaster', WHERE WHAT IT READS IS OF BULK AT MOST 1048576: true; the input reads as it did. -/
def ruleEasterUptoRow : OpenClaim := { program := "ytfphedcgmaakjaa", sum := "4f419358eb1d465fffee47f229bc753c07e648349565c50531e910ad92c81d02", func := "mortsafe/mortsafelaw02.RuleEaster", spec := "ruleEaster", unfollowed := true, recurses := true, apart := false, narrowed := true }
def RuleEasterUptoSaid : Prop := ruleEasterUptoRow.holds Try.pinned (OpenSpec.upto ruleEasterSpec)

/-- 'mortsafelaw02.RuleHolidays', WHERE WHAT IT READS IS OF BULK AT MOST 1048576: true; the input reads as it did. -/
def ruleHolidaysUptoRow : OpenClaim := { program := "ytfphedcgmaakjaa", sum := "4f419358eb1d465fffee47f229bc753c07e648349565c50531e910ad92c81d02", func := "mortsafe/mortsafelaw02.RuleHolidays", spec := "ruleHolidays", unfollowed := true, recurses := true, apart := false, narrowed := true }
def RuleHolidaysUptoSaid : Prop := ruleHolidaysUptoRow.holds Try.pinned (OpenSpec.upto ruleHolidaysSpec)

/-- 'mortsafelaw02.RuleWorking', WHERE WHAT IT READS IS OF BULK AT MOST 1048576: true; the input reads as it did. -/
def ruleWorkingUptoRow : OpenClaim := { program := "ytfphedcgmaakjaa", sum := "4f419358eb1d465fffee47f229bc753c07e648349565c50531e910ad92c81d02", func := "mortsafe/mortsafelaw02.RuleWorking", spec := "ruleWorking", unfollowed := true, recurses := true, apart := false, narrowed := true }
def RuleWorkingUptoSaid : Prop := ruleWorkingUptoRow.holds Try.pinned (OpenSpec.upto ruleWorkingSpec)

/-- 'mortsafelaw02.RuleBetween', WHERE WHAT IT READS IS OF BULK AT MOST 1048576: true; the input reads as it did. -/
def ruleBetweenUptoRow : OpenClaim := { program := "ytfphedcgmaakjaa", sum := "4f419358eb1d465fffee47f229bc753c07e648349565c50531e910ad92c81d02", func := "mortsafe/mortsafelaw02.RuleBetween", spec := "ruleBetween", unfollowed := true, recurses := true, apart := false, narrowed := true }
def RuleBetweenUptoSaid : Prop := ruleBetweenUptoRow.holds Try.pinned (OpenSpec.upto ruleBetweenSpec)

/-- 'mortsafelaw02.RuleDeadlines', WHERE WHAT IT READS IS OF BULK AT MOST 1048576: true; the input reads as it did. -/
def ruleDeadlinesUptoRow : OpenClaim := { program := "ytfphedcgmaakjaa", sum := "4f419358eb1d465fffee47f229bc753c07e648349565c50531e910ad92c81d02", func := "mortsafe/mortsafelaw02.RuleDeadlines", spec := "ruleDeadlines", unfollowed := true, recurses := true, apart := false, narrowed := true }
def RuleDeadlinesUptoSaid : Prop := ruleDeadlinesUptoRow.holds Try.pinned (OpenSpec.upto ruleDeadlinesSpec)

/-- 'mortsafelaw02.RuleProvisions', WHERE WHAT IT READS IS OF BULK AT MOST 1048576: true; the input reads as it did. -/
def ruleProvisionsUptoRow : OpenClaim := { program := "ytfphedcgmaakjaa", sum := "4f419358eb1d465fffee47f229bc753c07e648349565c50531e910ad92c81d02", func := "mortsafe/mortsafelaw02.RuleProvisions", spec := "ruleProvisions", unfollowed := true, recurses := true, apart := false, narrowed := true }
def RuleProvisionsUptoSaid : Prop := ruleProvisionsUptoRow.holds Try.pinned (OpenSpec.upto ruleProvisionsSpec)

/-- 'mortsafelaw02.RuleSources', WHERE WHAT IT READS IS OF BULK AT MOST 1048576: true; the input reads as it did. -/
def ruleSourcesUptoRow : OpenClaim := { program := "ytfphedcgmaakjaa", sum := "4f419358eb1d465fffee47f229bc753c07e648349565c50531e910ad92c81d02", func := "mortsafe/mortsafelaw02.RuleSources", spec := "ruleSources", unfollowed := true, recurses := true, apart := false, narrowed := true }
def RuleSourcesUptoSaid : Prop := ruleSourcesUptoRow.holds Try.pinned (OpenSpec.upto ruleSourcesSpec)

/-- 'mortsafelaw02.RuleChanges', WHERE WHAT IT READS IS OF BULK AT MOST 1048576: true; the input reads as it did. -/
def ruleChangesUptoRow : OpenClaim := { program := "ytfphedcgmaakjaa", sum := "4f419358eb1d465fffee47f229bc753c07e648349565c50531e910ad92c81d02", func := "mortsafe/mortsafelaw02.RuleChanges", spec := "ruleChanges", unfollowed := true, recurses := true, apart := false, narrowed := true }
def RuleChangesUptoSaid : Prop := ruleChangesUptoRow.holds Try.pinned (OpenSpec.upto ruleChangesSpec)

end Rows
end Go.Proofs.Ytfphedcgmaakjaa
