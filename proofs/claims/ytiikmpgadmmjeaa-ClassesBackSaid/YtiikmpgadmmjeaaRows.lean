/-
  No cell of these rows narrows 'for every input' (looked for: loops, veiled, ifaces, maps, wideKeys, modest, calm, conditions, laid).
  DERIVED. THE GIVEN ROWS OF THIS SEAT. 4 by the template 'for every input the law returns true; each argument reads behind the call as it read before'; 0 by the template 'total and deterministic' (their statements: YtiikmpgadmmjeaaTotals.lean).
  GIVEN WITH THE SEED: the statements are not yours to turn. If you find one false, say at which input.
  Laid BY PROGRAM, IN A SANDBOX (cutbox-rows.mjs): the forced cells as the released guide's own fill.sh prints them over the translation 0527138a33e03819… (all of the seat's roots in one cut). By AI agents, Wed Nov 11 2026. No macro, syntax, notation, axiom, sorry.
-/
import Derived.Test.YtiikmpgadmmjeaaChecked
import GoSem.Claim
import GoSem.ClaimJoined
import GoSem.ClaimMapViews
import Derived.JoinedTies
import Derived.KernelRfl
namespace Go.Proofs.Ytiikmpgadmmjeaa
/- THE CELL 'sum', in the pinned program and in every row, IS THE sha256 OF THE DUMP (.gsa) THAT YtiikmpgadmmjeaaProg.lean LOADS. Nothing in Lean hashes anything: it is a label: what it is worth is what the hold of that sum in a sandbox is worth. -/
noncomputable def Try.pinned : Pinned := { name := "ytiikmpgadmmjeaa", sum := "0527138a33e038198b9559e6bcda98bf54465e4d5c2562dd0112971d2de08f05", checked := Try.checked }
namespace Rows
def none {H : Type} : Left H := { results := [], args := [] }

/-- 'homographlaw10.ClassesOf': WHATEVER THE INPUT: true; the input reads as it did. -/
def classesOfSpec : ChangeSpec := { name := "classesOf", fn := fun _ => fun
  | [d1, d2] => { results := [.lit (.bool true)], args := [d1, d2] }
  | _ => none }
def classesOfRow : OpenClaim := { program := "ytiikmpgadmmjeaa", sum := "0527138a33e038198b9559e6bcda98bf54465e4d5c2562dd0112971d2de08f05", func := "homograph/homographlaw10.ClassesOf", spec := "classesOf", unfollowed := true, recurses := true, plainKeys := false, apart := false }
def ClassesOfSaid : Prop := classesOfRow.holds Try.pinned (OpenSpec.ofChange classesOfSpec)

/-- ITS FALSE NEIGHBOUR: 'it returns false'. Refute it at one input. -/
def classesOfWrong : ChangeSpec := { name := "classesOf", fn := fun _ => fun
  | [d1, d2] => { results := [.lit (.bool false)], args := [d1, d2] }
  | _ => none }
def ClassesOfWrongFalsely : Prop := classesOfRow.holds Try.pinned (OpenSpec.ofChange classesOfWrong)

/-- 'homographlaw10.ClassesBack': WHATEVER THE INPUT: true; the input reads as it did. -/
def classesBackSpec : ChangeSpec := { name := "classesBack", fn := fun _ => fun
  | [d1, d2, d3] => { results := [.lit (.bool true)], args := [d1, d2, d3] }
  | _ => none }
def classesBackRow : OpenClaim := { program := "ytiikmpgadmmjeaa", sum := "0527138a33e038198b9559e6bcda98bf54465e4d5c2562dd0112971d2de08f05", func := "homograph/homographlaw10.ClassesBack", spec := "classesBack", unfollowed := true, recurses := true, plainKeys := false, apart := false }
def ClassesBackSaid : Prop := classesBackRow.holds Try.pinned (OpenSpec.ofChange classesBackSpec)

/-- ITS FALSE NEIGHBOUR: 'it returns false'. Refute it at one input. -/
def classesBackWrong : ChangeSpec := { name := "classesBack", fn := fun _ => fun
  | [d1, d2, d3] => { results := [.lit (.bool false)], args := [d1, d2, d3] }
  | _ => none }
def ClassesBackWrongFalsely : Prop := classesBackRow.holds Try.pinned (OpenSpec.ofChange classesBackWrong)

/-- 'homographlaw10.ClassesRound': WHATEVER THE INPUT: true; the input reads as it did. -/
def classesRoundSpec : ChangeSpec := { name := "classesRound", fn := fun _ => fun
  | [d1, d2] => { results := [.lit (.bool true)], args := [d1, d2] }
  | _ => none }
def classesRoundRow : OpenClaim := { program := "ytiikmpgadmmjeaa", sum := "0527138a33e038198b9559e6bcda98bf54465e4d5c2562dd0112971d2de08f05", func := "homograph/homographlaw10.ClassesRound", spec := "classesRound", unfollowed := true, recurses := true, plainKeys := false, apart := false }
def ClassesRoundSaid : Prop := classesRoundRow.holds Try.pinned (OpenSpec.ofChange classesRoundSpec)

/-- ITS FALSE NEIGHBOUR: 'it returns false'. Refute it at one input. -/
def classesRoundWrong : ChangeSpec := { name := "classesRound", fn := fun _ => fun
  | [d1, d2] => { results := [.lit (.bool false)], args := [d1, d2] }
  | _ => none }
def ClassesRoundWrongFalsely : Prop := classesRoundRow.holds Try.pinned (OpenSpec.ofChange classesRoundWrong)

/-- 'homographlaw10.ClassesFew': WHATEVER THE INPUT: true; the input reads as it did. -/
def classesFewSpec : ChangeSpec := { name := "classesFew", fn := fun _ => fun
  | [d1, d2] => { results := [.lit (.bool true)], args := [d1, d2] }
  | _ => none }
def classesFewRow : OpenClaim := { program := "ytiikmpgadmmjeaa", sum := "0527138a33e038198b9559e6bcda98bf54465e4d5c2562dd0112971d2de08f05", func := "homograph/homographlaw10.ClassesFew", spec := "classesFew", unfollowed := true, recurses := true, plainKeys := false, apart := false }
def ClassesFewSaid : Prop := classesFewRow.holds Try.pinned (OpenSpec.ofChange classesFewSpec)

/-- ITS FALSE NEIGHBOUR: 'it returns false'. Refute it at one input. -/
def classesFewWrong : ChangeSpec := { name := "classesFew", fn := fun _ => fun
  | [d1, d2] => { results := [.lit (.bool false)], args := [d1, d2] }
  | _ => none }
def ClassesFewWrongFalsely : Prop := classesFewRow.holds Try.pinned (OpenSpec.ofChange classesFewWrong)

/- THE SECOND FORM. 'bulk': how many values and letters a reading holds, each counted each time it is reached (what is shared counts as often as it is met; a slice's spare places count too). A statement '..UptoSaid' is the law's where the arguments, and the package variables that the reading takes, are together of bulk at most 1048576: NARROWER than '..Said'. Prove '..Said' where nothing that the law and all that it calls make is longer than what came in: it says more and counts as full. Else prove '..UptoSaid'. A law counts once. -/
mutual
def uptoBulk {H : Type} : DataW H → Nat
  | .lit (.string bytes) => bytes.length + 1
  | .lit _ => 1
  | .nil => 1
  | .ptr d => uptoBulk d + 1
  | .slice elems spare => uptoBulkAll elems + uptoBulkAll spare + 1
  | .agg parts => uptoBulkAll parts + 1
  | .iface _ d => uptoBulk d + 1
  | .map entries => uptoBulkEntries entries + 1
  | .held _ => 1
def uptoBulkAll {H : Type} : List (DataW H) → Nat
  | [] => 0
  | d :: r => uptoBulk d + uptoBulkAll r
def uptoBulkEntries {H : Type} : List (Lit × DataW H) → Nat
  | [] => 0
  | x :: r => uptoBulkEntry x + uptoBulkEntries r
def uptoBulkEntry {H : Type} : Lit × DataW H → Nat
  | (.string bytes, d) => bytes.length + uptoBulk d + 1
  | (_, d) => uptoBulk d + 1
 end
def uptoSmall : (H : Type) → List (DataW H) → Bool := fun _ ds => decide (uptoBulkAll ds ≤ 1048576)
def OpenSpec.upto (s : _root_.Go.ChangeSpec) : _root_.Go.OpenSpec := { _root_.Go.OpenSpec.ofChange s with cond := some uptoSmall }

/-- 'homographlaw10.ClassesOf', WHERE WHAT IT READS IS OF BULK AT MOST 1048576: true; the input reads as it did. -/
def classesOfUptoRow : OpenClaim := { program := "ytiikmpgadmmjeaa", sum := "0527138a33e038198b9559e6bcda98bf54465e4d5c2562dd0112971d2de08f05", func := "homograph/homographlaw10.ClassesOf", spec := "classesOf", unfollowed := true, recurses := true, plainKeys := false, apart := false, narrowed := true }
def ClassesOfUptoSaid : Prop := classesOfUptoRow.holds Try.pinned (OpenSpec.upto classesOfSpec)

/-- 'homographlaw10.ClassesBack', WHERE WHAT IT READS IS OF BULK AT MOST 1048576: true; the input reads as it did. -/
def classesBackUptoRow : OpenClaim := { program := "ytiikmpgadmmjeaa", sum := "0527138a33e038198b9559e6bcda98bf54465e4d5c2562dd0112971d2de08f05", func := "homograph/homographlaw10.ClassesBack", spec := "classesBack", unfollowed := true, recurses := true, plainKeys := false, apart := false, narrowed := true }
def ClassesBackUptoSaid : Prop := classesBackUptoRow.holds Try.pinned (OpenSpec.upto classesBackSpec)

/-- 'homographlaw10.ClassesRound', WHERE WHAT IT READS IS OF BULK AT MOST 1048576: true; the input reads as it did. -/
def classesRoundUptoRow : OpenClaim := { program := "ytiikmpgadmmjeaa", sum := "0527138a33e038198b9559e6bcda98bf54465e4d5c2562dd0112971d2de08f05", func := "homograph/homographlaw10.ClassesRound", spec := "classesRound", unfollowed := true, recurses := true, plainKeys := false, apart := false, narrowed := true }
def ClassesRoundUptoSaid : Prop := classesRoundUptoRow.holds Try.pinned (OpenSpec.upto classesRoundSpec)

/-- 'homographlaw10.ClassesFew', WHERE WHAT IT READS IS OF BULK AT MOST 1048576: true; the input reads as it did. -/
def classesFewUptoRow : OpenClaim := { program := "ytiikmpgadmmjeaa", sum := "0527138a33e038198b9559e6bcda98bf54465e4d5c2562dd0112971d2de08f05", func := "homograph/homographlaw10.ClassesFew", spec := "classesFew", unfollowed := true, recurses := true, plainKeys := false, apart := false, narrowed := true }
def ClassesFewUptoSaid : Prop := classesFewUptoRow.holds Try.pinned (OpenSpec.upto classesFewSpec)

end Rows
end Go.Proofs.Ytiikmpgadmmjeaa
