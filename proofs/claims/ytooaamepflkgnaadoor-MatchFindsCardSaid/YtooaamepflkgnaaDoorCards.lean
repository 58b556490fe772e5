/-
  DERIVED. GIVEN WITH THE SEED: THE CARDS: each row of YtooaamepflkgnaaDoorRows.lean that lists a variable, with what it lists TIED to the program's text (the seventh form; the later family's looks); each row that meets fmt, with fmt's text TOLD by the authors' own Lean function (tested against real Go, not proved from fmt's source: count such statements apart). THE CARD IS WHAT COUNTS. Prove the row's statement (the work); the ties are given (YtooaamepflkgnaaDoorTie.lean); close each card by the builder's one call (the guide's Derived/Test/ToyasCard.lean, 'card_holds'). Laid BY PROGRAM, IN A SANDBOX (cutbox-door.mjs). By AI agents, Wed Nov 11 2026. No macro, syntax, notation, axiom, sorry.
-/
import Derived.Test.YtooaamepflkgnaaDoorRows
import GoSem.ClaimSeven
namespace Go.Proofs.YtooaamepflkgnaaDoor
namespace Rows

/-- THE TIED CARD OF 'homographlaw04.MatchFinds'. -/
def matchFindsCard : Claim7 := { stood := { row := matchFindsRow, standIns := [], harness := (true, "bf6fbab0f72d0845419beeaee790dbd71180e3107366a440e93b1a1558ee0b30"), looks := false }, kinds := [], alts := [], laidByText := true, laidKinds := [.data, .data, .data], laidTests := true, laidLooks := .later }
def MatchFindsCardSaid : Prop := Claim7.holds Tryd.pinned (.plain (OpenSpec.ofChange matchFindsSpec)) matchFindsCard

/-- THE TIED CARD OF 'homographlaw04.MatchSets'. -/
def matchSetsCard : Claim7 := { stood := { row := matchSetsRow, standIns := [], harness := (true, "bf6fbab0f72d0845419beeaee790dbd71180e3107366a440e93b1a1558ee0b30"), looks := false }, kinds := [], alts := [], laidByText := true, laidKinds := [.data, .data, .data], laidTests := true, laidLooks := .later }
def MatchSetsCardSaid : Prop := Claim7.holds Tryd.pinned (.plain (OpenSpec.ofChange matchSetsSpec)) matchSetsCard

/-- THE TIED CARD OF 'homographlaw04.MatchBack'. -/
def matchBackCard : Claim7 := { stood := { row := matchBackRow, standIns := [], harness := (true, "bf6fbab0f72d0845419beeaee790dbd71180e3107366a440e93b1a1558ee0b30"), looks := false }, kinds := [], alts := [], laidByText := true, laidKinds := [.data, .data, .data], laidTests := true, laidLooks := .later }
def MatchBackCardSaid : Prop := Claim7.holds Tryd.pinned (.plain (OpenSpec.ofChange matchBackSpec)) matchBackCard

/-- THE TIED CARD OF 'homographlaw04.MatchReps'. -/
def matchRepsCard : Claim7 := { stood := { row := matchRepsRow, standIns := [], harness := (true, "bf6fbab0f72d0845419beeaee790dbd71180e3107366a440e93b1a1558ee0b30"), looks := false }, kinds := [], alts := [], laidByText := true, laidKinds := [.data, .data, .data], laidTests := true, laidLooks := .later }
def MatchRepsCardSaid : Prop := Claim7.holds Tryd.pinned (.plain (OpenSpec.ofChange matchRepsSpec)) matchRepsCard

/-- THE SECOND FORM's CARD OF 'homographlaw04.MatchFinds'. -/
def matchFindsUptoCard : Claim7 := { stood := { row := matchFindsUptoRow, standIns := [], harness := (true, "bf6fbab0f72d0845419beeaee790dbd71180e3107366a440e93b1a1558ee0b30"), looks := false }, kinds := [], alts := [], laidByText := true, laidKinds := [.data, .data, .data], laidTests := true, laidLooks := .later }
def MatchFindsUptoCardSaid : Prop := Claim7.holds Tryd.pinned (.plain (OpenSpec.upto matchFindsSpec)) matchFindsUptoCard

/-- THE SECOND FORM's CARD OF 'homographlaw04.MatchSets'. -/
def matchSetsUptoCard : Claim7 := { stood := { row := matchSetsUptoRow, standIns := [], harness := (true, "bf6fbab0f72d0845419beeaee790dbd71180e3107366a440e93b1a1558ee0b30"), looks := false }, kinds := [], alts := [], laidByText := true, laidKinds := [.data, .data, .data], laidTests := true, laidLooks := .later }
def MatchSetsUptoCardSaid : Prop := Claim7.holds Tryd.pinned (.plain (OpenSpec.upto matchSetsSpec)) matchSetsUptoCard

/-- THE SECOND FORM's CARD OF 'homographlaw04.MatchBack'. -/
def matchBackUptoCard : Claim7 := { stood := { row := matchBackUptoRow, standIns := [], harness := (true, "bf6fbab0f72d0845419beeaee790dbd71180e3107366a440e93b1a1558ee0b30"), looks := false }, kinds := [], alts := [], laidByText := true, laidKinds := [.data, .data, .data], laidTests := true, laidLooks := .later }
def MatchBackUptoCardSaid : Prop := Claim7.holds Tryd.pinned (.plain (OpenSpec.upto matchBackSpec)) matchBackUptoCard

/-- THE SECOND FORM's CARD OF 'homographlaw04.MatchReps'. -/
def matchRepsUptoCard : Claim7 := { stood := { row := matchRepsUptoRow, standIns := [], harness := (true, "bf6fbab0f72d0845419beeaee790dbd71180e3107366a440e93b1a1558ee0b30"), looks := false }, kinds := [], alts := [], laidByText := true, laidKinds := [.data, .data, .data], laidTests := true, laidLooks := .later }
def MatchRepsUptoCardSaid : Prop := Claim7.holds Tryd.pinned (.plain (OpenSpec.upto matchRepsSpec)) matchRepsUptoCard
end Rows
end Go.Proofs.YtooaamepflkgnaaDoor
