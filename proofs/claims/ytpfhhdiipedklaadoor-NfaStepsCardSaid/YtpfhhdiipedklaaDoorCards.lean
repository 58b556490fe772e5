/-
  DERIVED. GIVEN WITH THE SEED: THE CARDS: each row of YtpfhhdiipedklaaDoorRows.lean that lists a variable, with what it lists TIED to the program's text (the seventh form; the later family's looks); each row that meets fmt, with fmt's text TOLD by the authors' own Lean function (tested against real Go, not proved from fmt's source: count such statements apart). THE CARD IS WHAT COUNTS. Prove the row's statement (the work); the ties are given (YtpfhhdiipedklaaDoorTie.lean); close each card by the builder's one call (the guide's Derived/Test/ToyasCard.lean, 'card_holds'). Laid BY PROGRAM, IN A SANDBOX (cutbox-door.mjs). By AI agents, Wed Nov 11 2026. No macro, syntax, notation, axiom, sorry.
-/
import Derived.Test.YtpfhhdiipedklaaDoorRows
import GoSem.ClaimSeven
namespace Go.Proofs.YtpfhhdiipedklaaDoor
namespace Rows

/-- THE TIED CARD OF 'homographlaw06.NfaSteps'. -/
def nfaStepsCard : Claim7 := { stood := { row := nfaStepsRow, standIns := [], harness := (true, "23a1f6a9ec774f2cd41175089c867b2937c2cd71341ce9727e7cd8ac6b01fb47"), looks := false }, kinds := [], alts := [], laidByText := true, laidKinds := [.data], laidTests := true, laidLooks := .later }
def NfaStepsCardSaid : Prop := Claim7.holds Tryd.pinned (.plain (OpenSpec.ofChange nfaStepsSpec)) nfaStepsCard

/-- THE TIED CARD OF 'homographlaw06.NfaMeans'. -/
def nfaMeansCard : Claim7 := { stood := { row := nfaMeansRow, standIns := [], harness := (true, "23a1f6a9ec774f2cd41175089c867b2937c2cd71341ce9727e7cd8ac6b01fb47"), looks := false }, kinds := [], alts := [], laidByText := true, laidKinds := [.data], laidTests := true, laidLooks := .later }
def NfaMeansCardSaid : Prop := Claim7.holds Tryd.pinned (.plain (OpenSpec.ofChange nfaMeansSpec)) nfaMeansCard

/-- THE TIED CARD OF 'homographlaw06.NfaClosed'. -/
def nfaClosedCard : Claim7 := { stood := { row := nfaClosedRow, standIns := [], harness := (true, "23a1f6a9ec774f2cd41175089c867b2937c2cd71341ce9727e7cd8ac6b01fb47"), looks := false }, kinds := [], alts := [], laidByText := true, laidKinds := [.data], laidTests := true, laidLooks := .later }
def NfaClosedCardSaid : Prop := Claim7.holds Tryd.pinned (.plain (OpenSpec.ofChange nfaClosedSpec)) nfaClosedCard

/-- THE TIED CARD OF 'homographlaw06.NfaParts'. -/
def nfaPartsCard : Claim7 := { stood := { row := nfaPartsRow, standIns := [], harness := (true, "23a1f6a9ec774f2cd41175089c867b2937c2cd71341ce9727e7cd8ac6b01fb47"), looks := false }, kinds := [], alts := [], laidByText := true, laidKinds := [.data], laidTests := true, laidLooks := .later }
def NfaPartsCardSaid : Prop := Claim7.holds Tryd.pinned (.plain (OpenSpec.ofChange nfaPartsSpec)) nfaPartsCard

/-- THE SECOND FORM's CARD OF 'homographlaw06.NfaSteps'. -/
def nfaStepsUptoCard : Claim7 := { stood := { row := nfaStepsUptoRow, standIns := [], harness := (true, "23a1f6a9ec774f2cd41175089c867b2937c2cd71341ce9727e7cd8ac6b01fb47"), looks := false }, kinds := [], alts := [], laidByText := true, laidKinds := [.data], laidTests := true, laidLooks := .later }
def NfaStepsUptoCardSaid : Prop := Claim7.holds Tryd.pinned (.plain (OpenSpec.upto nfaStepsSpec)) nfaStepsUptoCard

/-- THE SECOND FORM's CARD OF 'homographlaw06.NfaMeans'. -/
def nfaMeansUptoCard : Claim7 := { stood := { row := nfaMeansUptoRow, standIns := [], harness := (true, "23a1f6a9ec774f2cd41175089c867b2937c2cd71341ce9727e7cd8ac6b01fb47"), looks := false }, kinds := [], alts := [], laidByText := true, laidKinds := [.data], laidTests := true, laidLooks := .later }
def NfaMeansUptoCardSaid : Prop := Claim7.holds Tryd.pinned (.plain (OpenSpec.upto nfaMeansSpec)) nfaMeansUptoCard

/-- THE SECOND FORM's CARD OF 'homographlaw06.NfaClosed'. -/
def nfaClosedUptoCard : Claim7 := { stood := { row := nfaClosedUptoRow, standIns := [], harness := (true, "23a1f6a9ec774f2cd41175089c867b2937c2cd71341ce9727e7cd8ac6b01fb47"), looks := false }, kinds := [], alts := [], laidByText := true, laidKinds := [.data], laidTests := true, laidLooks := .later }
def NfaClosedUptoCardSaid : Prop := Claim7.holds Tryd.pinned (.plain (OpenSpec.upto nfaClosedSpec)) nfaClosedUptoCard

/-- THE SECOND FORM's CARD OF 'homographlaw06.NfaParts'. -/
def nfaPartsUptoCard : Claim7 := { stood := { row := nfaPartsUptoRow, standIns := [], harness := (true, "23a1f6a9ec774f2cd41175089c867b2937c2cd71341ce9727e7cd8ac6b01fb47"), looks := false }, kinds := [], alts := [], laidByText := true, laidKinds := [.data], laidTests := true, laidLooks := .later }
def NfaPartsUptoCardSaid : Prop := Claim7.holds Tryd.pinned (.plain (OpenSpec.upto nfaPartsSpec)) nfaPartsUptoCard
end Rows
end Go.Proofs.YtpfhhdiipedklaaDoor
