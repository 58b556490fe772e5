/-
  No cell of these rows narrows 'for every input' (looked for: loops, veiled, ifaces, maps, wideKeys, modest, calm, conditions, laid).
  DERIVED. THE GIVEN ROWS OF THIS SEAT. 3 by the template 'for every input the law returns true; each argument reads behind the call as it read before'; 0 by the template 'total and deterministic' (their statements: YtamgldhnfcikbaaTotals.lean).
  GIVEN WITH THE SEED: the statements are not yours to turn. If you find one false, say at which input.
  Laid BY PROGRAM, IN A SANDBOX (cutbox-rows.mjs): the forced cells as the released guide's own fill.sh prints them over the translation 802186b2b75d9d8c… (all of the seat's roots in one cut). By AI agents, Wed Nov 11 2026. No macro, syntax, notation, axiom, sorry.
-/
import Derived.Test.YtamgldhnfcikbaaChecked
import GoSem.Claim
import GoSem.ClaimJoined
import GoSem.ClaimMapViews
import Derived.JoinedTies
import Derived.KernelRfl
namespace Go.Proofs.Ytamgldhnfcikbaa
/- THE CELL 'sum', in the pinned program and in every row, IS THE sha256 OF THE DUMP (.gsa) THAT YtamgldhnfcikbaaProg.lean LOADS. Nothing in Lean hashes anything: it is a label: what it is worth is what the hold of that sum in a sandbox is worth. -/
noncomputable def Try.pinned : Pinned := { name := "ytamgldhnfcikbaa", sum := "802186b2b75d9d8cab325b6a7560dca39b2d427357b8901cf51716381b49f695", checked := Try.checked }
namespace Rows
def none {H : Type} : Left H := { results := [], args := [] }

/-- 'homographlaw08.MinimLeast': WHATEVER THE INPUT: true; the input reads as it did. -/
def minimLeastSpec : ChangeSpec := { name := "minimLeast", fn := fun _ => fun
  | [d] => { results := [.lit (.bool true)], args := [d] }
  | _ => none }
def minimLeastRow : OpenClaim := { program := "ytamgldhnfcikbaa", sum := "802186b2b75d9d8cab325b6a7560dca39b2d427357b8901cf51716381b49f695", func := "homograph/homographlaw08.MinimLeast", spec := "minimLeast", unfollowed := true, recurses := true, plainKeys := false, apart := false }
def MinimLeastSaid : Prop := minimLeastRow.holds Try.pinned (OpenSpec.ofChange minimLeastSpec)

/-- ITS FALSE NEIGHBOUR: 'it returns false'. Refute it at one input. -/
def minimLeastWrong : ChangeSpec := { name := "minimLeast", fn := fun _ => fun
  | [d] => { results := [.lit (.bool false)], args := [d] }
  | _ => none }
def MinimLeastWrongFalsely : Prop := minimLeastRow.holds Try.pinned (OpenSpec.ofChange minimLeastWrong)

/-- 'homographlaw08.MinimDiffers': WHATEVER THE INPUT: true; the input reads as it did. -/
def minimDiffersSpec : ChangeSpec := { name := "minimDiffers", fn := fun _ => fun
  | [d1, d2] => { results := [.lit (.bool true)], args := [d1, d2] }
  | _ => none }
def minimDiffersRow : OpenClaim := { program := "ytamgldhnfcikbaa", sum := "802186b2b75d9d8cab325b6a7560dca39b2d427357b8901cf51716381b49f695", func := "homograph/homographlaw08.MinimDiffers", spec := "minimDiffers", unfollowed := true, recurses := true, plainKeys := false, apart := false }
def MinimDiffersSaid : Prop := minimDiffersRow.holds Try.pinned (OpenSpec.ofChange minimDiffersSpec)

/-- ITS FALSE NEIGHBOUR: 'it returns false'. Refute it at one input. -/
def minimDiffersWrong : ChangeSpec := { name := "minimDiffers", fn := fun _ => fun
  | [d1, d2] => { results := [.lit (.bool false)], args := [d1, d2] }
  | _ => none }
def MinimDiffersWrongFalsely : Prop := minimDiffersRow.holds Try.pinned (OpenSpec.ofChange minimDiffersWrong)

/-- 'homographlaw08.MinimOnce': WHATEVER THE INPUT: true; the input reads as it did. -/
def minimOnceSpec : ChangeSpec := { name := "minimOnce", fn := fun _ => fun
  | [d1, d2] => { results := [.lit (.bool true)], args := [d1, d2] }
  | _ => none }
def minimOnceRow : OpenClaim := { program := "ytamgldhnfcikbaa", sum := "802186b2b75d9d8cab325b6a7560dca39b2d427357b8901cf51716381b49f695", func := "homograph/homographlaw08.MinimOnce", spec := "minimOnce", unfollowed := true, recurses := true, plainKeys := false, apart := false }
def MinimOnceSaid : Prop := minimOnceRow.holds Try.pinned (OpenSpec.ofChange minimOnceSpec)

/-- ITS FALSE NEIGHBOUR: 'it returns false'. Refute it at one input. -/
def minimOnceWrong : ChangeSpec := { name := "minimOnce", fn := fun _ => fun
  | [d1, d2] => { results := [.lit (.bool false)], args := [d1, d2] }
  | _ => none }
def MinimOnceWrongFalsely : Prop := minimOnceRow.holds Try.pinned (OpenSpec.ofChange minimOnceWrong)

/- THE SECOND FORM. 'bulk': how many values and letters a reading holds, each counted each time it is reached (what is shared counts as often as it is met; a slice's spare places count too). A statement '..UptoSaid' is the law's where the arguments, and the package variables that the reading takes, are together of bulk at most 1048576: NARROWER than '..Said'. Prove '..Said' where nothing that the law and all that it calls make is longer than what came in: it says more and counts as full. Else prove '..UptoSaid'. A law counts once. -/
mutual
def uptoBulk {H : Type} : DataW H → Nat
  | .lit (.string bytes) => bytes.length + 1
  | .lit _ => 1
  | .nil => 1
  | .ptr d => uptoBulk d + 1
  | .slice elems spare => uptoBulkAll elems + uptoBulkAll spare + 1
  | .agg parts => uptoBulkAll parts + 1
  | .iface _ d => uptoBulk d + 1
  | .map entries => uptoBulkEntries entries + 1
  | .held _ => 1
def uptoBulkAll {H : Type} : List (DataW H) → Nat
  | [] => 0
  | d :: r => uptoBulk d + uptoBulkAll r
def uptoBulkEntries {H : Type} : List (Lit × DataW H) → Nat
  | [] => 0
  | x :: r => uptoBulkEntry x + uptoBulkEntries r
def uptoBulkEntry {H : Type} : Lit × DataW H → Nat
  | (.string bytes, d) => bytes.length + uptoBulk d + 1
  | (_, d) => uptoBulk d + 1
 end
def uptoSmall : (H : Type) → List (DataW H) → Bool := fun _ ds => decide (uptoBulkAll ds ≤ 1048576)
def OpenSpec.upto (s : _root_.Go.ChangeSpec) : _root_.Go.OpenSpec := { _root_.Go.OpenSpec.ofChange s with cond := some uptoSmall }

/-- 'homographlaw08.MinimLeast', WHERE WHAT IT READS IS OF BULK AT MOST 1048576: true; the input reads as it did. -/
def minimLeastUptoRow : OpenClaim := { program := "ytamgldhnfcikbaa", sum := "802186b2b75d9d8cab325b6a7560dca39b2d427357b8901cf51716381b49f695", func := "homograph/homographlaw08.MinimLeast", spec := "minimLeast", unfollowed := true, recurses := true, plainKeys := false, apart := false, narrowed := true }
def MinimLeastUptoSaid : Prop := minimLeastUptoRow.holds Try.pinned (OpenSpec.upto minimLeastSpec)

/-- 'homographlaw08.MinimDiffers', WHERE WHAT IT READS IS OF BULK AT MOST 1048576: true; the input reads as it did. -/
def minimDiffersUptoRow : OpenClaim := { program := "ytamgldhnfcikbaa", sum := "802186b2b75d9d8cab325b6a7560dca39b2d427357b8901cf51716381b49f695", func := "homograph/homographlaw08.MinimDiffers", spec := "minimDiffers", unfollowed := true, recurses := true, plainKeys := false, apart := false, narrowed := true }
def MinimDiffersUptoSaid : Prop := minimDiffersUptoRow.holds Try.pinned (OpenSpec.upto minimDiffersSpec)

/-- 'homographlaw08.MinimOnce', WHERE WHAT IT READS IS OF BULK AT MOST 1048576: true; the input reads as it did. -/
def minimOnceUptoRow : OpenClaim := { program := "ytamgldhnfcikbaa", sum := "802186b2b75d9d8cab325b6a7560dca39b2d427357b8901cf51716381b49f695", func := "homograph/homographlaw08.MinimOnce", spec := "minimOnce", unfollowed := true, recurses := true, plainKeys := false, apart := false, narrowed := true }
def MinimOnceUptoSaid : Prop := minimOnceUptoRow.holds Try.pinned (OpenSpec.upto minimOnceSpec)

end Rows
end Go.Proofs.Ytamgldhnfcikbaa
