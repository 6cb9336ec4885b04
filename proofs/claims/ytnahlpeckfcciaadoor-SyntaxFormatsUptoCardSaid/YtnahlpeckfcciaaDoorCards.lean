/-
  DERIVED. GIVEN WITH THE SEED: THE CARDS: each row of YtnahlpeckfcciaaDoorRows.lean that lists a variable, with what it lists TIED to the program's text (the seventh form; the later family's looks); each row that meets fmt, with fmt's text TOLD by the authors' own Lean function (tested against real Go, not proved from fmt's source: count such statements apart). THE CARD IS WHAT COUNTS. Prove the row's statement (the work); the ties are given (YtnahlpeckfcciaaDoorTie.lean); close each card by the builder's one call (the guide's Derived/Test/ToyasCard.lean, 'card_holds'). Laid BY PROGRAM, IN A SANDBOX (cutbox-door.mjs). By AI agents, Wed Nov 11 2026. No macro, syntax, notation, axiom, sorry.
-/
import Derived.Test.YtnahlpeckfcciaaDoorRows
import GoSem.ClaimSeven
namespace Go.Proofs.YtnahlpeckfcciaaDoor
namespace Rows

/-- THE TIED CARD OF 'armplanlaw7.SyntaxParses'. -/
def syntaxParsesCard : Claim7 := { stood := { row := syntaxParsesRow, standIns := [], harness := (true, "b50e4e624e3ee97b59d4d97801b9c606a92ac1ed15aa7e12f5323938a6637dbd"), looks := false }, kinds := [], alts := [], laidByText := true, laidKinds := [.data, .pinned], laidTests := true, laidLooks := .later }
def SyntaxParsesCardSaid : Prop := Claim7.holds Tryd.pinned (.plain (OpenSpec.ofChange syntaxParsesSpec)) syntaxParsesCard

/-- THE TIED CARD OF 'armplanlaw7.SyntaxArguments'. -/
def syntaxArgumentsCard : Claim7 := { stood := { row := syntaxArgumentsRow, standIns := [], harness := (true, "b50e4e624e3ee97b59d4d97801b9c606a92ac1ed15aa7e12f5323938a6637dbd"), looks := false }, kinds := [], alts := [], laidByText := true, laidKinds := [.data, .pinned], laidTests := true, laidLooks := .later }
def SyntaxArgumentsCardSaid : Prop := Claim7.holds Tryd.pinned (.plain (OpenSpec.ofChange syntaxArgumentsSpec)) syntaxArgumentsCard

/-- THE TIED CARD OF 'armplanlaw7.SyntaxFormats'. -/
def syntaxFormatsCard : Claim7 := { stood := { row := syntaxFormatsRow, standIns := [], harness := (true, "b50e4e624e3ee97b59d4d97801b9c606a92ac1ed15aa7e12f5323938a6637dbd"), looks := false }, kinds := [], alts := [], laidByText := true, laidKinds := [.data, .pinned], laidTests := true, laidLooks := .later }
def SyntaxFormatsCardSaid : Prop := Claim7.holds Tryd.pinned (.plain (OpenSpec.ofChange syntaxFormatsSpec)) syntaxFormatsCard

/-- THE TIED CARD OF 'armplanlaw7.SyntaxRoundTrip'. -/
def syntaxRoundTripCard : Claim7 := { stood := { row := syntaxRoundTripRow, standIns := [], harness := (true, "b50e4e624e3ee97b59d4d97801b9c606a92ac1ed15aa7e12f5323938a6637dbd"), looks := false }, kinds := [], alts := [], laidByText := true, laidKinds := [.data, .pinned], laidTests := true, laidLooks := .later }
def SyntaxRoundTripCardSaid : Prop := Claim7.holds Tryd.pinned (.plain (OpenSpec.ofChange syntaxRoundTripSpec)) syntaxRoundTripCard

/-- THE TIED CARD OF 'armplanlaw7.SyntaxComments'. -/
def syntaxCommentsCard : Claim7 := { stood := { row := syntaxCommentsRow, standIns := [], harness := (true, "b50e4e624e3ee97b59d4d97801b9c606a92ac1ed15aa7e12f5323938a6637dbd"), looks := false }, kinds := [], alts := [], laidByText := true, laidKinds := [.data, .pinned], laidTests := true, laidLooks := .later }
def SyntaxCommentsCardSaid : Prop := Claim7.holds Tryd.pinned (.plain (OpenSpec.ofChange syntaxCommentsSpec)) syntaxCommentsCard

/-- THE TIED CARD OF 'armplanlaw7.SyntaxPrefix'. -/
def syntaxPrefixCard : Claim7 := { stood := { row := syntaxPrefixRow, standIns := [], harness := (true, "b50e4e624e3ee97b59d4d97801b9c606a92ac1ed15aa7e12f5323938a6637dbd"), looks := false }, kinds := [], alts := [], laidByText := true, laidKinds := [.data, .pinned], laidTests := true, laidLooks := .later }
def SyntaxPrefixCardSaid : Prop := Claim7.holds Tryd.pinned (.plain (OpenSpec.ofChange syntaxPrefixSpec)) syntaxPrefixCard

/-- THE SECOND FORM's CARD OF 'armplanlaw7.SyntaxParses'. -/
def syntaxParsesUptoCard : Claim7 := { stood := { row := syntaxParsesUptoRow, standIns := [], harness := (true, "b50e4e624e3ee97b59d4d97801b9c606a92ac1ed15aa7e12f5323938a6637dbd"), looks := false }, kinds := [], alts := [], laidByText := true, laidKinds := [.data, .pinned], laidTests := true, laidLooks := .later }
def SyntaxParsesUptoCardSaid : Prop := Claim7.holds Tryd.pinned (.plain (OpenSpec.upto syntaxParsesSpec)) syntaxParsesUptoCard

/-- THE SECOND FORM's CARD OF 'armplanlaw7.SyntaxArguments'. -/
def syntaxArgumentsUptoCard : Claim7 := { stood := { row := syntaxArgumentsUptoRow, standIns := [], harness := (true, "b50e4e624e3ee97b59d4d97801b9c606a92ac1ed15aa7e12f5323938a6637dbd"), looks := false }, kinds := [], alts := [], laidByText := true, laidKinds := [.data, .pinned], laidTests := true, laidLooks := .later }
def SyntaxArgumentsUptoCardSaid : Prop := Claim7.holds Tryd.pinned (.plain (OpenSpec.upto syntaxArgumentsSpec)) syntaxArgumentsUptoCard

/-- THE SECOND FORM's CARD OF 'armplanlaw7.SyntaxFormats'. -/
def syntaxFormatsUptoCard : Claim7 := { stood := { row := syntaxFormatsUptoRow, standIns := [], harness := (true, "b50e4e624e3ee97b59d4d97801b9c606a92ac1ed15aa7e12f5323938a6637dbd"), looks := false }, kinds := [], alts := [], laidByText := true, laidKinds := [.data, .pinned], laidTests := true, laidLooks := .later }
def SyntaxFormatsUptoCardSaid : Prop := Claim7.holds Tryd.pinned (.plain (OpenSpec.upto syntaxFormatsSpec)) syntaxFormatsUptoCard

/-- THE SECOND FORM's CARD OF 'armplanlaw7.SyntaxRoundTrip'. -/
def syntaxRoundTripUptoCard : Claim7 := { stood := { row := syntaxRoundTripUptoRow, standIns := [], harness := (true, "b50e4e624e3ee97b59d4d97801b9c606a92ac1ed15aa7e12f5323938a6637dbd"), looks := false }, kinds := [], alts := [], laidByText := true, laidKinds := [.data, .pinned], laidTests := true, laidLooks := .later }
def SyntaxRoundTripUptoCardSaid : Prop := Claim7.holds Tryd.pinned (.plain (OpenSpec.upto syntaxRoundTripSpec)) syntaxRoundTripUptoCard

/-- THE SECOND FORM's CARD OF 'armplanlaw7.SyntaxComments'. -/
def syntaxCommentsUptoCard : Claim7 := { stood := { row := syntaxCommentsUptoRow, standIns := [], harness := (true, "b50e4e624e3ee97b59d4d97801b9c606a92ac1ed15aa7e12f5323938a6637dbd"), looks := false }, kinds := [], alts := [], laidByText := true, laidKinds := [.data, .pinned], laidTests := true, laidLooks := .later }
def SyntaxCommentsUptoCardSaid : Prop := Claim7.holds Tryd.pinned (.plain (OpenSpec.upto syntaxCommentsSpec)) syntaxCommentsUptoCard

/-- THE SECOND FORM's CARD OF 'armplanlaw7.SyntaxPrefix'. -/
def syntaxPrefixUptoCard : Claim7 := { stood := { row := syntaxPrefixUptoRow, standIns := [], harness := (true, "b50e4e624e3ee97b59d4d97801b9c606a92ac1ed15aa7e12f5323938a6637dbd"), looks := false }, kinds := [], alts := [], laidByText := true, laidKinds := [.data, .pinned], laidTests := true, laidLooks := .later }
def SyntaxPrefixUptoCardSaid : Prop := Claim7.holds Tryd.pinned (.plain (OpenSpec.upto syntaxPrefixSpec)) syntaxPrefixUptoCard
end Rows
end Go.Proofs.YtnahlpeckfcciaaDoor
