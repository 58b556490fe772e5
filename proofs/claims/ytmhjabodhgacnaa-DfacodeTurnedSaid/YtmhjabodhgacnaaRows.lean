/-
  No cell of these rows narrows 'for every input' (looked for: loops, veiled, ifaces, maps, wideKeys, modest, calm, conditions, laid).
  DERIVED. THE GIVEN ROWS OF THIS SEAT. 5 by the template 'for every input the law returns true; each argument reads behind the call as it read before'; 0 by the template 'total and deterministic' (their statements: YtmhjabodhgacnaaTotals.lean).
  GIVEN WITH THE SEED: the statements are not yours to turn. If you find one false, say at which input.
  Laid BY PROGRAM, IN A SANDBOX (cutbox-rows.mjs): the forced cells as the released guide's own fill.sh prints them over the translation 923b826085f8c269… (all of the seat's roots in one cut). By AI agents, Wed Nov 11 2026. No macro, syntax, notation, axiom, sorry.
-/
import Derived.Test.YtmhjabodhgacnaaChecked
import GoSem.Claim
import GoSem.ClaimJoined
import GoSem.ClaimMapViews
import Derived.JoinedTies
import Derived.KernelRfl
namespace Go.Proofs.Ytmhjabodhgacnaa
/- THE CELL 'sum', in the pinned program and in every row, IS THE sha256 OF THE DUMP (.gsa) THAT YtmhjabodhgacnaaProg.lean LOADS. Nothing in Lean hashes anything: it is a label: what it is worth is what the hold of that sum in a sandbox is worth. -/
noncomputable def Try.pinned : Pinned := { name := "ytmhjabodhgacnaa", sum := "923b826085f8c2694db57d6964910c677888bf931c7508d064c15b650525644c", checked := Try.checked }
namespace Rows
def none {H : Type} : Left H := { results := [], args := [] }

/-- 'homographlaw11.DfacodePuts': WHATEVER THE INPUT: true; the input reads as it did. -/
def dfacodePutsSpec : ChangeSpec := { name := "dfacodePuts", fn := fun _ => fun
  | [d1, d2, d3] => { results := [.lit (.bool true)], args := [d1, d2, d3] }
  | _ => none }
def dfacodePutsRow : OpenClaim := { program := "ytmhjabodhgacnaa", sum := "923b826085f8c2694db57d6964910c677888bf931c7508d064c15b650525644c", func := "homograph/homographlaw11.DfacodePuts", spec := "dfacodePuts", unfollowed := true, recurses := true, apart := false }
def DfacodePutsSaid : Prop := dfacodePutsRow.holds Try.pinned (OpenSpec.ofChange dfacodePutsSpec)

/-- ITS FALSE NEIGHBOUR: 'it returns false'. Refute it at one input. -/
def dfacodePutsWrong : ChangeSpec := { name := "dfacodePuts", fn := fun _ => fun
  | [d1, d2, d3] => { results := [.lit (.bool false)], args := [d1, d2, d3] }
  | _ => none }
def DfacodePutsWrongFalsely : Prop := dfacodePutsRow.holds Try.pinned (OpenSpec.ofChange dfacodePutsWrong)

/-- 'homographlaw11.DfacodeGets': WHATEVER THE INPUT: true; the input reads as it did. -/
def dfacodeGetsSpec : ChangeSpec := { name := "dfacodeGets", fn := fun _ => fun
  | [d1, d2] => { results := [.lit (.bool true)], args := [d1, d2] }
  | _ => none }
def dfacodeGetsRow : OpenClaim := { program := "ytmhjabodhgacnaa", sum := "923b826085f8c2694db57d6964910c677888bf931c7508d064c15b650525644c", func := "homograph/homographlaw11.DfacodeGets", spec := "dfacodeGets", unfollowed := true, recurses := true, apart := false }
def DfacodeGetsSaid : Prop := dfacodeGetsRow.holds Try.pinned (OpenSpec.ofChange dfacodeGetsSpec)

/-- ITS FALSE NEIGHBOUR: 'it returns false'. Refute it at one input. -/
def dfacodeGetsWrong : ChangeSpec := { name := "dfacodeGets", fn := fun _ => fun
  | [d1, d2] => { results := [.lit (.bool false)], args := [d1, d2] }
  | _ => none }
def DfacodeGetsWrongFalsely : Prop := dfacodeGetsRow.holds Try.pinned (OpenSpec.ofChange dfacodeGetsWrong)

/-- 'homographlaw11.DfacodeBack': WHATEVER THE INPUT: true; the input reads as it did. -/
def dfacodeBackSpec : ChangeSpec := { name := "dfacodeBack", fn := fun _ => fun
  | [d1, d2, d3] => { results := [.lit (.bool true)], args := [d1, d2, d3] }
  | _ => none }
def dfacodeBackRow : OpenClaim := { program := "ytmhjabodhgacnaa", sum := "923b826085f8c2694db57d6964910c677888bf931c7508d064c15b650525644c", func := "homograph/homographlaw11.DfacodeBack", spec := "dfacodeBack", unfollowed := true, recurses := true, apart := false }
def DfacodeBackSaid : Prop := dfacodeBackRow.holds Try.pinned (OpenSpec.ofChange dfacodeBackSpec)

/-- ITS FALSE NEIGHBOUR: 'it returns false'. Refute it at one input. -/
def dfacodeBackWrong : ChangeSpec := { name := "dfacodeBack", fn := fun _ => fun
  | [d1, d2, d3] => { results := [.lit (.bool false)], args := [d1, d2, d3] }
  | _ => none }
def DfacodeBackWrongFalsely : Prop := dfacodeBackRow.holds Try.pinned (OpenSpec.ofChange dfacodeBackWrong)

/-- 'homographlaw11.DfacodeTurned': WHATEVER THE INPUT: true; the input reads as it did. -/
def dfacodeTurnedSpec : ChangeSpec := { name := "dfacodeTurned", fn := fun _ => fun
  | [d1, d2, d3] => { results := [.lit (.bool true)], args := [d1, d2, d3] }
  | _ => none }
def dfacodeTurnedRow : OpenClaim := { program := "ytmhjabodhgacnaa", sum := "923b826085f8c2694db57d6964910c677888bf931c7508d064c15b650525644c", func := "homograph/homographlaw11.DfacodeTurned", spec := "dfacodeTurned", unfollowed := true, recurses := true, apart := false }
def DfacodeTurnedSaid : Prop := dfacodeTurnedRow.holds Try.pinned (OpenSpec.ofChange dfacodeTurnedSpec)

/-- ITS FALSE NEIGHBOUR: 'it returns false'. Refute it at one input. -/
def dfacodeTurnedWrong : ChangeSpec := { name := "dfacodeTurned", fn := fun _ => fun
  | [d1, d2, d3] => { results := [.lit (.bool false)], args := [d1, d2, d3] }
  | _ => none }
def DfacodeTurnedWrongFalsely : Prop := dfacodeTurnedRow.holds Try.pinned (OpenSpec.ofChange dfacodeTurnedWrong)

/-- 'homographlaw11.DfacodeSizes': WHATEVER THE INPUT: true; the input reads as it did. -/
def dfacodeSizesSpec : ChangeSpec := { name := "dfacodeSizes", fn := fun _ => fun
  | [d] => { results := [.lit (.bool true)], args := [d] }
  | _ => none }
def dfacodeSizesRow : OpenClaim := { program := "ytmhjabodhgacnaa", sum := "923b826085f8c2694db57d6964910c677888bf931c7508d064c15b650525644c", func := "homograph/homographlaw11.DfacodeSizes", spec := "dfacodeSizes", unfollowed := true, recurses := true, apart := false }
def DfacodeSizesSaid : Prop := dfacodeSizesRow.holds Try.pinned (OpenSpec.ofChange dfacodeSizesSpec)

/-- ITS FALSE NEIGHBOUR: 'it returns false'. Refute it at one input. -/
def dfacodeSizesWrong : ChangeSpec := { name := "dfacodeSizes", fn := fun _ => fun
  | [d] => { results := [.lit (.bool false)], args := [d] }
  | _ => none }
def DfacodeSizesWrongFalsely : Prop := dfacodeSizesRow.holds Try.pinned (OpenSpec.ofChange dfacodeSizesWrong)

/- THE SECOND FORM. 'bulk': how many values and letters a reading holds, each counted each time it is reached (what is shared counts as often as it is met; a slice's spare places count too). A statement '..UptoSaid' is the law's where the arguments, and the package variables that the reading takes, are together of bulk at most 1048576: NARROWER than '..Said'. Prove '..Said' where nothing that the law and all that it calls make is longer than what came in: it says more and counts as full. Else prove '..UptoSaid'. A law counts once. -/
mutual
def uptoBulk {H : Type} : DataW H → Nat
  | .lit (.string bytes) => bytes.length + 1
  | .lit _ => 1
  | .nil => 1
  | .ptr d => uptoBulk d + 1
  | .slice elems spare => uptoBulkAll elems + uptoBulkAll spare + 1
  | .agg parts => uptoBulkAll parts + 1
  | .iface _ d => uptoBulk d + 1
  | .map entries => uptoBulkEntries entries + 1
  | .held _ => 1
def uptoBulkAll {H : Type} : List (DataW H) → Nat
  | [] => 0
  | d :: r => uptoBulk d + uptoBulkAll r
def uptoBulkEntries {H : Type} : List (Lit × DataW H) → Nat
  | [] => 0
  | x :: r => uptoBulkEntry x + uptoBulkEntries r
def uptoBulkEntry {H : Type} : Lit × DataW H → Nat
  | (.string bytes, d) => bytes.length + uptoBulk d + 1
  | (_, d) => uptoBulk d + 1
 end
def uptoSmall : (H : Type) → List (DataW H) → Bool := fun _ ds => decide (uptoBulkAll ds ≤ 1048576)
def OpenSpec.upto (s : _root_.Go.ChangeSpec) : _root_.Go.OpenSpec := { _root_.Go.OpenSpec.ofChange s with cond := some uptoSmall }

/-- 'homographlaw11.DfacodePuts', WHERE WHAT IT READS IS OF BULK AT MOST 1048576: true; the input reads as it did. -/
def dfacodePutsUptoRow : OpenClaim := { program := "ytmhjabodhgacnaa", sum := "923b826085f8c2694db57d6964910c677888bf931c7508d064c15b650525644c", func := "homograph/homographlaw11.DfacodePuts", spec := "dfacodePuts", unfollowed := true, recurses := true, apart := false, narrowed := true }
def DfacodePutsUptoSaid : Prop := dfacodePutsUptoRow.holds Try.pinned (OpenSpec.upto dfacodePutsSpec)

/-- 'homographlaw11.DfacodeGets', WHERE WHAT IT READS IS OF BULK AT MOST 1048576: true; the input reads as it did. -/
def dfacodeGetsUptoRow : OpenClaim := { program := "ytmhjabodhgacnaa", sum := "923b826085f8c2694db57d6964910c677888bf931c7508d064c15b650525644c", func := "homograph/homographlaw11.DfacodeGets", spec := "dfacodeGets", unfollowed := true, recurses := true, apart := false, narrowed := true }
def DfacodeGetsUptoSaid : Prop := dfacodeGetsUptoRow.holds Try.pinned (OpenSpec.upto dfacodeGetsSpec)

/-- 'homographlaw11.DfacodeBack', WHERE WHAT IT READS IS OF BULK AT MOST 1048576: true; the input reads as it did. -/
def dfacodeBackUptoRow : OpenClaim := { program := "ytmhjabodhgacnaa", sum := "923b826085f8c2694db57d6964910c677888bf931c7508d064c15b650525644c", func := "homograph/homographlaw11.DfacodeBack", spec := "dfacodeBack", unfollowed := true, recurses := true, apart := false, narrowed := true }
def DfacodeBackUptoSaid : Prop := dfacodeBackUptoRow.holds Try.pinned (OpenSpec.upto dfacodeBackSpec)

/-- 'homographlaw11.DfacodeTurned', WHERE WHAT IT READS IS OF BULK AT MOST 1048576: true; the input reads as it did. -/
def dfacodeTurnedUptoRow : OpenClaim := { program := "ytmhjabodhgacnaa", sum := "923b826085f8c2694db57d6964910c677888bf931c7508d064c15b650525644c", func := "homograph/homographlaw11.DfacodeTurned", spec := "dfacodeTurned", unfollowed := true, recurses := true, apart := false, narrowed := true }
def DfacodeTurnedUptoSaid : Prop := dfacodeTurnedUptoRow.holds Try.pinned (OpenSpec.upto dfacodeTurnedSpec)

/-- 'homographlaw11.DfacodeSizes', WHERE WHAT IT READS IS OF BULK AT MOST 1048576: true; the input reads as it did. -/
def dfacodeSizesUptoRow : OpenClaim := { program := "ytmhjabodhgacnaa", sum := "923b826085f8c2694db57d6964910c677888bf931c7508d064c15b650525644c", func := "homograph/homographlaw11.DfacodeSizes", spec := "dfacodeSizes", unfollowed := true, recurses := true, apart := false, narrowed := true }
def DfacodeSizesUptoSaid : Prop := dfacodeSizesUptoRow.holds Try.pinned (OpenSpec.upto dfacodeSizesSpec)

end Rows
end Go.Proofs.Ytmhjabodhgacnaa
