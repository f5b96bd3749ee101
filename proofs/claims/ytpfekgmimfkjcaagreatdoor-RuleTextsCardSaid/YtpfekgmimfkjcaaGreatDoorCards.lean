/-
  DERIVED. GIVEN WITH THE SEED: THE CARDS: each row of YtpfekgmimfkjcaaGreatDoorRows.lean that lists a variable, with what it lists TIED to the program's text (the seventh form; the later family's looks); each row that meets fmt, with fmt's text TOLD by the authors' own Lean function (tested against real Go, not proved from fmt's source: count such statements apart). THE CARD IS WHAT COUNTS. Prove the row's statement (the work); the ties are given (YtpfekgmimfkjcaaGreatDoorTie.lean); close each card by the builder's one call (the guide's Derived/Test/ToyasCard.lean, 'card_holds'). Laid BY PROGRAM, IN A SANDBOX (cutbox-door.mjs). By AI agents, Wed Nov 11 2026. No macro, syntax, notation, axiom, sorry.
-/
import Derived.Test.YtpfekgmimfkjcaaGreatDoorRows
import GoSem.ClaimSeven
namespace Go.Proofs.YtpfekgmimfkjcaaGreatDoor
namespace Rows

/-- THE TIED CARD OF 'mortsafelaw02.RuleFormats'. -/
def ruleFormatsCard : Claim7 := { stood := { row := ruleFormatsRow, standIns := [], harness := (true, "b24aa6b646e7cdaf0825f062428ccca21dc2bd6d04e2c44c8255892fd409d500"), looks := true }, kinds := [], alts := [], laidByText := true, laidKinds := [.data, .data, .data, .data, .sentinel, .sentinel, .pinned], laidTests := true, laidLooks := .later }
def RuleFormatsCardSaid : Prop := Claim7.holds Tryz.pinned (.plain (OpenSpec.ofChange ruleFormatsSpec)) ruleFormatsCard

/-- THE TIED CARD OF 'mortsafelaw02.RuleTexts'. -/
def ruleTextsCard : Claim7 := { stood := { row := ruleTextsRow, standIns := [], harness := (true, "b24aa6b646e7cdaf0825f062428ccca21dc2bd6d04e2c44c8255892fd409d500"), looks := true }, kinds := [], alts := [], laidByText := true, laidKinds := [.data, .data, .data, .data, .sentinel, .sentinel, .pinned], laidTests := true, laidLooks := .later }
def RuleTextsCardSaid : Prop := Claim7.holds Tryz.pinned (.plain (OpenSpec.ofChange ruleTextsSpec)) ruleTextsCard

/-- THE SECOND FORM's CARD OF 'mortsafelaw02.RuleFormats'. -/
def ruleFormatsUptoCard : Claim7 := { stood := { row := ruleFormatsUptoRow, standIns := [], harness := (true, "b24aa6b646e7cdaf0825f062428ccca21dc2bd6d04e2c44c8255892fd409d500"), looks := true }, kinds := [], alts := [], laidByText := true, laidKinds := [.data, .data, .data, .data, .sentinel, .sentinel, .pinned], laidTests := true, laidLooks := .later }
def RuleFormatsUptoCardSaid : Prop := Claim7.holds Tryz.pinned (.plain (OpenSpec.upto ruleFormatsSpec)) ruleFormatsUptoCard

/-- THE SECOND FORM's CARD OF 'mortsafelaw02.RuleTexts'. -/
def ruleTextsUptoCard : Claim7 := { stood := { row := ruleTextsUptoRow, standIns := [], harness := (true, "b24aa6b646e7cdaf0825f062428ccca21dc2bd6d04e2c44c8255892fd409d500"), looks := true }, kinds := [], alts := [], laidByText := true, laidKinds := [.data, .data, .data, .data, .sentinel, .sentinel, .pinned], laidTests := true, laidLooks := .later }
def RuleTextsUptoCardSaid : Prop := Claim7.holds Tryz.pinned (.plain (OpenSpec.upto ruleTextsSpec)) ruleTextsUptoCard
end Rows
end Go.Proofs.YtpfekgmimfkjcaaGreatDoor
