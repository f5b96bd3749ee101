/-
  No cell of these rows narrows 'for every input' (looked for: loops, veiled, ifaces, maps, wideKeys, modest, calm, conditions, laid).
  DERIVED. THE GIVEN ROWS OF THIS SEAT. 5 by the template 'for every input the law returns true; each argument reads behind the call as it read before'; 0 by the template 'total and deterministic' (their statements: YtfneafofohfdnaaTotals.lean).
  GIVEN WITH THE SEED: the statements are not yours to turn. If you find one false, say at which input.
  Laid BY PROGRAM, IN A SANDBOX (cutbox-rows.mjs): the forced cells as the released guide's own fill.sh prints them over the translation 569396f0bfbc9a34… (all of the seat's roots in one cut). By AI agents, Wed Nov 11 2026. No macro, syntax, notation, axiom, sorry.
-/
import Derived.Test.YtfneafofohfdnaaChecked
import GoSem.Claim
import GoSem.ClaimJoined
import GoSem.ClaimMapViews
import Derived.JoinedTies
import Derived.KernelRfl
namespace Go.Proofs.Ytfneafofohfdnaa
/- THE CELL 'sum', in the pinned program and in every row, IS THE sha256 OF THE DUMP (.gsa) THAT YtfneafofohfdnaaProg.lean LOADS. Nothing in Lean hashes anything: it is a label: what it is worth is what the hold of that sum in a sandbox is worth. -/
noncomputable def Try.pinned : Pinned := { name := "ytfneafofohfdnaa", sum := "569396f0bfbc9a34f390f6815a64749cedf5d181f4b4c0178f6dbaec9f2b647e", checked := Try.checked }
namespace Rows
def none {H : Type} : Left H := { results := [], args := [] }

/-- 'mortsafelaw04.PersonNames': WHATEVER THE INPUT: true; the input reads as it did. -/
def personNamesSpec : ChangeSpec := { name := "personNames", fn := fun _ => fun
  | [d] => { results := [.lit (.bool true)], args := [d] }
  | _ => none }
def personNamesRow : OpenClaim := { program := "ytfneafofohfdnaa", sum := "569396f0bfbc9a34f390f6815a64749cedf5d181f4b4c0178f6dbaec9f2b647e", func := "mortsafe/mortsafelaw04.PersonNames", spec := "personNames", inPlace := ["internal/bytealg.IndexByteString", "internal/bytealg.IndexString"], unfollowed := true, recurses := true, named := ["internal/bytealg.MaxLen"], apart := false }
def PersonNamesSaid : Prop := personNamesRow.holds Try.pinned (OpenSpec.ofChange personNamesSpec)

/-- ITS FALSE NEIGHBOUR: 'it returns false'. Refute it at one input. -/
def personNamesWrong : ChangeSpec := { name := "personNames", fn := fun _ => fun
  | [d] => { results := [.lit (.bool false)], args := [d] }
  | _ => none }
def PersonNamesWrongFalsely : Prop := personNamesRow.holds Try.pinned (OpenSpec.ofChange personNamesWrong)

/-- 'mortsafelaw04.PersonPairs': WHATEVER THE INPUT: true; the input reads as it did. -/
def personPairsSpec : ChangeSpec := { name := "personPairs", fn := fun _ => fun
  | [d1, d2] => { results := [.lit (.bool true)], args := [d1, d2] }
  | _ => none }
def personPairsRow : OpenClaim := { program := "ytfneafofohfdnaa", sum := "569396f0bfbc9a34f390f6815a64749cedf5d181f4b4c0178f6dbaec9f2b647e", func := "mortsafe/mortsafelaw04.PersonPairs", spec := "personPairs", inPlace := ["internal/bytealg.IndexByteString", "internal/bytealg.IndexString"], unfollowed := true, recurses := true, named := ["internal/bytealg.MaxLen"], apart := false }
def PersonPairsSaid : Prop := personPairsRow.holds Try.pinned (OpenSpec.ofChange personPairsSpec)

/-- ITS FALSE NEIGHBOUR: 'it returns false'. Refute it at one input. -/
def personPairsWrong : ChangeSpec := { name := "personPairs", fn := fun _ => fun
  | [d1, d2] => { results := [.lit (.bool false)], args := [d1, d2] }
  | _ => none }
def PersonPairsWrongFalsely : Prop := personPairsRow.holds Try.pinned (OpenSpec.ofChange personPairsWrong)

/-- 'mortsafelaw04.PersonReadings': WHATEVER THE INPUT: true; the input reads as it did. -/
def personReadingsSpec : ChangeSpec := { name := "personReadings", fn := fun _ => fun
  | [d1, d2] => { results := [.lit (.bool true)], args := [d1, d2] }
  | _ => none }
def personReadingsRow : OpenClaim := { program := "ytfneafofohfdnaa", sum := "569396f0bfbc9a34f390f6815a64749cedf5d181f4b4c0178f6dbaec9f2b647e", func := "mortsafe/mortsafelaw04.PersonReadings", spec := "personReadings", inPlace := ["internal/bytealg.IndexByteString", "internal/bytealg.IndexString"], unfollowed := true, recurses := true, named := ["internal/bytealg.MaxLen"], apart := false }
def PersonReadingsSaid : Prop := personReadingsRow.holds Try.pinned (OpenSpec.ofChange personReadingsSpec)

/-- ITS FALSE NEIGHBOUR: 'it returns false'. Refute it at one input. -/
def personReadingsWrong : ChangeSpec := { name := "personReadings", fn := fun _ => fun
  | [d1, d2] => { results := [.lit (.bool false)], args := [d1, d2] }
  | _ => none }
def PersonReadingsWrongFalsely : Prop := personReadingsRow.holds Try.pinned (OpenSpec.ofChange personReadingsWrong)

/-- 'mortsafelaw04.PersonTriangle': WHATEVER THE INPUT: true; the input reads as it did. -/
def personTriangleSpec : ChangeSpec := { name := "personTriangle", fn := fun _ => fun
  | [d1, d2, d3] => { results := [.lit (.bool true)], args := [d1, d2, d3] }
  | _ => none }
def personTriangleRow : OpenClaim := { program := "ytfneafofohfdnaa", sum := "569396f0bfbc9a34f390f6815a64749cedf5d181f4b4c0178f6dbaec9f2b647e", func := "mortsafe/mortsafelaw04.PersonTriangle", spec := "personTriangle", inPlace := ["internal/bytealg.IndexByteString", "internal/bytealg.IndexString"], unfollowed := true, recurses := true, named := ["internal/bytealg.MaxLen"], apart := false }
def PersonTriangleSaid : Prop := personTriangleRow.holds Try.pinned (OpenSpec.ofChange personTriangleSpec)

/-- ITS FALSE NEIGHBOUR: 'it returns false'. Refute it at one input. -/
def personTriangleWrong : ChangeSpec := { name := "personTriangle", fn := fun _ => fun
  | [d1, d2, d3] => { results := [.lit (.bool false)], args := [d1, d2, d3] }
  | _ => none }
def PersonTriangleWrongFalsely : Prop := personTriangleRow.holds Try.pinned (OpenSpec.ofChange personTriangleWrong)

/-- 'mortsafelaw04.PersonScores': WHATEVER THE INPUT: true; the input reads as it did. -/
def personScoresSpec : ChangeSpec := { name := "personScores", fn := fun _ => fun
  | [d1, d2, d3] => { results := [.lit (.bool true)], args := [d1, d2, d3] }
  | _ => none }
def personScoresRow : OpenClaim := { program := "ytfneafofohfdnaa", sum := "569396f0bfbc9a34f390f6815a64749cedf5d181f4b4c0178f6dbaec9f2b647e", func := "mortsafe/mortsafelaw04.PersonScores", spec := "personScores", inPlace := ["internal/bytealg.IndexByteString", "internal/bytealg.IndexString"], unfollowed := true, recurses := true, named := ["internal/bytealg.MaxLen"], apart := false }
def PersonScoresSaid : Prop := personScoresRow.holds Try.pinned (OpenSpec.ofChange personScoresSpec)

/-- ITS FALSE NEIGHBOUR: 'it returns false'. Refute it at one input. -/
def personScoresWrong : ChangeSpec := { name := "personScores", fn := fun _ => fun
  | [d1, d2, d3] => { results := [.lit (.bool false)], args := [d1, d2, d3] }
  | _ => none }
def PersonScoresWrongFalsely : Prop := personScoresRow.holds Try.pinned (OpenSpec.ofChange personScoresWrong)

/- THE SECOND FORM. 'bulk': how many values and letters a reading holds, each counted each time it is reached (what is shared counts as often as it is met; a slice's spare places count too). A statement '..UptoSaid' is the law's where the arguments, and the package variables that the reading takes, are together of bulk at most 1048576: NARROWER than '..Said'. Prove '..Said' where nothing that the law and all that it calls make is longer than what came in: it says more and counts as full. Else prove '..UptoSaid'. A law counts once. -/
mutual
def uptoBulk {H : Type} : DataW H → Nat
  | .lit (.string bytes) => bytes.length + 1
  | .lit _ => 1
  | .nil => 1
  | .ptr d => uptoBulk d + 1
  | .slice elems spare => uptoBulkAll elems + uptoBulkAll spare + 1
  | .agg parts => uptoBulkAll parts + 1
  | .iface _ d => uptoBulk d + 1
  | .map entries => uptoBulkEntries entries + 1
  | .held _ => 1
def uptoBulkAll {H : Type} : List (DataW H) → Nat
  | [] => 0
  | d :: r => uptoBulk d + uptoBulkAll r
def uptoBulkEntries {H : Type} : List (Lit × DataW H) → Nat
  | [] => 0
  | x :: r => uptoBulkEntry x + uptoBulkEntries r
def uptoBulkEntry {H : Type} : Lit × DataW H → Nat
  | (.string bytes, d) => bytes.length + uptoBulk d + 1
  | (_, d) => uptoBulk d + 1
 end
def uptoSmall : (H : Type) → List (DataW H) → Bool := fun _ ds => decide (uptoBulkAll ds ≤ 1048576)
def OpenSpec.upto (s : _root_.Go.ChangeSpec) : _root_.Go.OpenSpec := { _root_.Go.OpenSpec.ofChange s with cond := some uptoSmall }

/-- 'mortsafelaw04.PersonNames', WHERE WHAT IT READS IS OF BULK AT MOST 1048576: true; the input reads as it did. -/
def personNamesUptoRow : OpenClaim := { program := "ytfneafofohfdnaa", sum := "569396f0bfbc9a34f390f6815a64749cedf5d181f4b4c0178f6dbaec9f2b647e", func := "mortsafe/mortsafelaw04.PersonNames", spec := "personNames", inPlace := ["internal/bytealg.IndexByteString", "internal/bytealg.IndexString"], unfollowed := true, recurses := true, named := ["internal/bytealg.MaxLen"], apart := false, narrowed := true }
def PersonNamesUptoSaid : Prop := personNamesUptoRow.holds Try.pinned (OpenSpec.upto personNamesSpec)

/-- 'mortsafelaw04.PersonPairs', WHERE WHAT IT READS IS OF BULK AT MOST 1048576: true; the input reads as it did. -/
def personPairsUptoRow : OpenClaim := { program := "ytfneafofohfdnaa", sum := "569396f0bfbc9a34f390f6815a64749cedf5d181f4b4c0178f6dbaec9f2b647e", func := "mortsafe/mortsafelaw04.PersonPairs", spec := "personPairs", inPlace := ["internal/bytealg.IndexByteString", "internal/bytealg.IndexString"], unfollowed := true, recurses := true, named := ["internal/bytealg.MaxLen"], apart := false, narrowed := true }
def PersonPairsUptoSaid : Prop := personPairsUptoRow.holds Try.pinned (OpenSpec.upto personPairsSpec)

/-- 'mortsafelaw04.PersonReadings', WHERE WHAT IT READS IS OF BULK AT MOST 1048576: true; the input reads as it did. -/
def personReadingsUptoRow : OpenClaim := { program := "ytfneafofohfdnaa", sum := "569396f0bfbc9a34f390f6815a64749cedf5d181f4b4c0178f6dbaec9f2b647e", func := "mortsafe/mortsafelaw04.PersonReadings", spec := "personReadings", inPlace := ["internal/bytealg.IndexByteString", "internal/bytealg.IndexString"], unfollowed := true, recurses := true, named := ["internal/bytealg.MaxLen"], apart := false, narrowed := true }
def PersonReadingsUptoSaid : Prop := personReadingsUptoRow.holds Try.pinned (OpenSpec.upto personReadingsSpec)

/-- 'mortsafelaw04.PersonTriangle', WHERE WHAT IT READS IS OF BULK AT MOST 1048576: true; the input reads as it did. -/
def personTriangleUptoRow : OpenClaim := { program := "ytfneafofohfdnaa", sum := "569396f0bfbc9a34f390f6815a64749cedf5d181f4b4c0178f6dbaec9f2b647e", func := "mortsafe/mortsafelaw04.PersonTriangle", spec := "personTriangle", inPlace := ["internal/bytealg.IndexByteString", "internal/bytealg.IndexString"], unfollowed := true, recurses := true, named := ["internal/bytealg.MaxLen"], apart := false, narrowed := true }
def PersonTriangleUptoSaid : Prop := personTriangleUptoRow.holds Try.pinned (OpenSpec.upto personTriangleSpec)

/-- 'mortsafelaw04.PersonScores', WHERE WHAT IT READS IS OF BULK AT MOST 1048576: true; the input reads as it did. -/
def personScoresUptoRow : OpenClaim := { program := "ytfneafofohfdnaa", sum := "569396f0bfbc9a34f390f6815a64749cedf5d181f4b4c0178f6dbaec9f2b647e", func := "mortsafe/mortsafelaw04.PersonScores", spec := "personScores", inPlace := ["internal/bytealg.IndexByteString", "internal/bytealg.IndexString"], unfollowed := true, recurses := true, named := ["internal/bytealg.MaxLen"], apart := false, narrowed := true }
def PersonScoresUptoSaid : Prop := personScoresUptoRow.holds Try.pinned (OpenSpec.upto personScoresSpec)

end Rows
end Go.Proofs.Ytfneafofohfdnaa
