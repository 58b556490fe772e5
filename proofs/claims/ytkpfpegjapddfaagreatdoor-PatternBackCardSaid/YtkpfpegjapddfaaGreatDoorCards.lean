/-
  DERIVED. GIVEN WITH THE SEED: THE CARDS: each row of YtkpfpegjapddfaaGreatDoorRows.lean that lists a variable, with what it lists TIED to the program's text (the seventh form; the later family's looks); each row that meets fmt, with fmt's text TOLD by the authors' own Lean function (tested against real Go, not proved from fmt's source: count such statements apart). THE CARD IS WHAT COUNTS. Prove the row's statement (the work); the ties are given (YtkpfpegjapddfaaGreatDoorTie.lean); close each card by the builder's one call (the guide's Derived/Test/ToyasCard.lean, 'card_holds'). Laid BY PROGRAM, IN A SANDBOX (cutbox-door.mjs). By AI agents, Wed Nov 11 2026. No macro, syntax, notation, axiom, sorry.
-/
import Derived.Test.YtkpfpegjapddfaaGreatDoorRows
import GoSem.ClaimSeven
namespace Go.Proofs.YtkpfpegjapddfaaGreatDoor
namespace Rows

/-- THE TIED CARD OF 'homographlaw03.PatternShows'. -/
def patternShowsCard : Claim7 := { stood := { row := patternShowsRow, standIns := [], harness := (true, "05739d502fa4a347ba5571e8979f1108772951176dd4e7ad16858d95e8729945"), looks := true }, kinds := [], alts := [], laidByText := true, laidKinds := [.data, .data, .data, .sentinel, .sentinel], laidTests := true, laidLooks := .later }
def PatternShowsCardSaid : Prop := Claim7.holds Tryz.pinned (.plain (OpenSpec.ofChange patternShowsSpec)) patternShowsCard

/-- THE TIED CARD OF 'homographlaw03.PatternBack'. -/
def patternBackCard : Claim7 := { stood := { row := patternBackRow, standIns := [], harness := (true, "05739d502fa4a347ba5571e8979f1108772951176dd4e7ad16858d95e8729945"), looks := true }, kinds := [], alts := [], laidByText := true, laidKinds := [.data, .data, .data, .sentinel, .sentinel], laidTests := true, laidLooks := .later }
def PatternBackCardSaid : Prop := Claim7.holds Tryz.pinned (.plain (OpenSpec.ofChange patternBackSpec)) patternBackCard

/-- THE TIED CARD OF 'homographlaw03.PatternClasses'. -/
def patternClassesCard : Claim7 := { stood := { row := patternClassesRow, standIns := [], harness := (true, "05739d502fa4a347ba5571e8979f1108772951176dd4e7ad16858d95e8729945"), looks := true }, kinds := [], alts := [], laidByText := true, laidKinds := [.data, .data, .data, .sentinel, .sentinel], laidTests := true, laidLooks := .later }
def PatternClassesCardSaid : Prop := Claim7.holds Tryz.pinned (.plain (OpenSpec.ofChange patternClassesSpec)) patternClassesCard

/-- THE TIED CARD OF 'homographlaw03.PatternWraps'. -/
def patternWrapsCard : Claim7 := { stood := { row := patternWrapsRow, standIns := [], harness := (true, "05739d502fa4a347ba5571e8979f1108772951176dd4e7ad16858d95e8729945"), looks := true }, kinds := [], alts := [], laidByText := true, laidKinds := [.data, .data, .data, .sentinel, .sentinel], laidTests := true, laidLooks := .later }
def PatternWrapsCardSaid : Prop := Claim7.holds Tryz.pinned (.plain (OpenSpec.ofChange patternWrapsSpec)) patternWrapsCard

/-- THE SECOND FORM's CARD OF 'homographlaw03.PatternShows'. -/
def patternShowsUptoCard : Claim7 := { stood := { row := patternShowsUptoRow, standIns := [], harness := (true, "05739d502fa4a347ba5571e8979f1108772951176dd4e7ad16858d95e8729945"), looks := true }, kinds := [], alts := [], laidByText := true, laidKinds := [.data, .data, .data, .sentinel, .sentinel], laidTests := true, laidLooks := .later }
def PatternShowsUptoCardSaid : Prop := Claim7.holds Tryz.pinned (.plain (OpenSpec.upto patternShowsSpec)) patternShowsUptoCard

/-- THE SECOND FORM's CARD OF 'homographlaw03.PatternBack'. -/
def patternBackUptoCard : Claim7 := { stood := { row := patternBackUptoRow, standIns := [], harness := (true, "05739d502fa4a347ba5571e8979f1108772951176dd4e7ad16858d95e8729945"), looks := true }, kinds := [], alts := [], laidByText := true, laidKinds := [.data, .data, .data, .sentinel, .sentinel], laidTests := true, laidLooks := .later }
def PatternBackUptoCardSaid : Prop := Claim7.holds Tryz.pinned (.plain (OpenSpec.upto patternBackSpec)) patternBackUptoCard

/-- THE SECOND FORM's CARD OF 'homographlaw03.PatternClasses'. -/
def patternClassesUptoCard : Claim7 := { stood := { row := patternClassesUptoRow, standIns := [], harness := (true, "05739d502fa4a347ba5571e8979f1108772951176dd4e7ad16858d95e8729945"), looks := true }, kinds := [], alts := [], laidByText := true, laidKinds := [.data, .data, .data, .sentinel, .sentinel], laidTests := true, laidLooks := .later }
def PatternClassesUptoCardSaid : Prop := Claim7.holds Tryz.pinned (.plain (OpenSpec.upto patternClassesSpec)) patternClassesUptoCard

/-- THE SECOND FORM's CARD OF 'homographlaw03.PatternWraps'. -/
def patternWrapsUptoCard : Claim7 := { stood := { row := patternWrapsUptoRow, standIns := [], harness := (true, "05739d502fa4a347ba5571e8979f1108772951176dd4e7ad16858d95e8729945"), looks := true }, kinds := [], alts := [], laidByText := true, laidKinds := [.data, .data, .data, .sentinel, .sentinel], laidTests := true, laidLooks := .later }
def PatternWrapsUptoCardSaid : Prop := Claim7.holds Tryz.pinned (.plain (OpenSpec.upto patternWrapsSpec)) patternWrapsUptoCard
end Rows
end Go.Proofs.YtkpfpegjapddfaaGreatDoor
