/-
  DERIVED. GIVEN WITH THE SEED: THE CARDS: each row of YtfphedcgmaakjabGreatDoorRows.lean that lists a variable, with what it lists TIED to the program's text (the seventh form; the later family's looks); each row that meets fmt, with fmt's text TOLD by the authors' own Lean function (tested against real Go, not proved from fmt's source: count such statements apart). THE CARD IS WHAT COUNTS. Prove the row's statement (the work); the ties are given (YtfphedcgmaakjabGreatDoorTie.lean); close each card by the builder's one call (the guide's Derived/Test/ToyasCard.lean, 'card_holds'). Laid BY PROGRAM, IN A SANDBOX (cutbox-door.mjs). By AI agents, Wed Nov 11 2026. No macro, syntax, notation, axiom, sorry.
-/
import Derived.Test.YtfphedcgmaakjabGreatDoorRows
import GoSem.ClaimSeven
namespace Go.Proofs.YtfphedcgmaakjabGreatDoor
namespace Rows

/-- THE TIED CARD OF 'mortsafelaw02.RuleFormats'. -/
def ruleFormatsCard : Claim7 := { stood := { row := ruleFormatsRow, standIns := [], harness := (true, "dc0fb7c262e2ebc979f7393f1e8e38be9932e19b6b1d929b0b94f452c32fae06"), looks := true }, kinds := [], alts := [], laidByText := true, laidKinds := [.data, .data, .data, .data, .sentinel, .sentinel, .pinned], laidTests := true, laidLooks := .later }
def RuleFormatsCardSaid : Prop := Claim7.holds Tryz.pinned (.plain (OpenSpec.ofChange ruleFormatsSpec)) ruleFormatsCard

/-- THE TIED CARD OF 'mortsafelaw02.RuleTexts'. -/
def ruleTextsCard : Claim7 := { stood := { row := ruleTextsRow, standIns := [], harness := (true, "dc0fb7c262e2ebc979f7393f1e8e38be9932e19b6b1d929b0b94f452c32fae06"), looks := true }, kinds := [], alts := [], laidByText := true, laidKinds := [.data, .data, .data, .data, .sentinel, .sentinel, .pinned], laidTests := true, laidLooks := .later }
def RuleTextsCardSaid : Prop := Claim7.holds Tryz.pinned (.plain (OpenSpec.ofChange ruleTextsSpec)) ruleTextsCard

/-- THE TIED CARD OF 'mortsafelaw02.RuleKnown'. -/
def ruleKnownCard : Claim7 := { stood := { row := ruleKnownRow, standIns := [], harness := (true, "dc0fb7c262e2ebc979f7393f1e8e38be9932e19b6b1d929b0b94f452c32fae06"), looks := true }, kinds := [], alts := [], laidByText := true, laidKinds := [.data, .data, .data], laidTests := true, laidLooks := .later }
def RuleKnownCardSaid : Prop := Claim7.holds Tryz.pinned (.plain (OpenSpec.ofChange ruleKnownSpec)) ruleKnownCard

/-- THE SECOND FORM's CARD OF 'mortsafelaw02.RuleFormats'. -/
def ruleFormatsUptoCard : Claim7 := { stood := { row := ruleFormatsUptoRow, standIns := [], harness := (true, "dc0fb7c262e2ebc979f7393f1e8e38be9932e19b6b1d929b0b94f452c32fae06"), looks := true }, kinds := [], alts := [], laidByText := true, laidKinds := [.data, .data, .data, .data, .sentinel, .sentinel, .pinned], laidTests := true, laidLooks := .later }
def RuleFormatsUptoCardSaid : Prop := Claim7.holds Tryz.pinned (.plain (OpenSpec.upto ruleFormatsSpec)) ruleFormatsUptoCard

/-- THE SECOND FORM's CARD OF 'mortsafelaw02.RuleTexts'. -/
def ruleTextsUptoCard : Claim7 := { stood := { row := ruleTextsUptoRow, standIns := [], harness := (true, "dc0fb7c262e2ebc979f7393f1e8e38be9932e19b6b1d929b0b94f452c32fae06"), looks := true }, kinds := [], alts := [], laidByText := true, laidKinds := [.data, .data, .data, .data, .sentinel, .sentinel, .pinned], laidTests := true, laidLooks := .later }
def RuleTextsUptoCardSaid : Prop := Claim7.holds Tryz.pinned (.plain (OpenSpec.upto ruleTextsSpec)) ruleTextsUptoCard

/-- THE SECOND FORM's CARD OF 'mortsafelaw02.RuleKnown'. -/
def ruleKnownUptoCard : Claim7 := { stood := { row := ruleKnownUptoRow, standIns := [], harness := (true, "dc0fb7c262e2ebc979f7393f1e8e38be9932e19b6b1d929b0b94f452c32fae06"), looks := true }, kinds := [], alts := [], laidByText := true, laidKinds := [.data, .data, .data], laidTests := true, laidLooks := .later }
def RuleKnownUptoCardSaid : Prop := Claim7.holds Tryz.pinned (.plain (OpenSpec.upto ruleKnownSpec)) ruleKnownUptoCard
end Rows
end Go.Proofs.YtfphedcgmaakjabGreatDoor
