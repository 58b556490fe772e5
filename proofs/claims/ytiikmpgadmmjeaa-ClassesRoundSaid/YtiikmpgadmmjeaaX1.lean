/- Pairs of places: how a pair is compared; a map from pairs to steps: a look, a new entry. -/
import Derived.Test.YtiikmpgadmmjeaaXJ
import Derived.WideKeyRuns
import Derived.ChangeKeysEq
set_option maxRecDepth 100000
namespace Go.Proofs.Ytiikmpgadmmjeaa
open Go.RowKit

/-- A map's block, set. -/
def setMap (w : World) (r : Nat) (es : Array MapEntry) (c : Nat) : World := { w with heap := w.heap.setIfInBounds r (.map es c) }
theorem setMap_new (w : World) (r : Nat) (es es' : Array MapEntry) (c c' : Nat) (h : w.heap[r]? = some (.map es c)) : (setMap w r es' c').heap[r]? = some (.map es' c') := by
  have hl := lt_of_block h
  simp [setMap, hl]
/-- A pair, and a step, as values. -/
def pv (p : Int × Int) : Value := .agg #[.int .i64 p.1, .int .i64 p.2]
def sv (p : Int × Int) (b : Nat) : Value := .agg #[.int .i64 p.1, .int .i64 p.2, .int .u8 b]
theorem part_pv_0 (a b : Int) (w : World) : (part 3 #[.int .i64 a, .int .i64 b] (0 * 1)).run Try.prog w = .ok (.int .i64 a) w := by kernel_rfl
theorem part_pv_1 (a b : Int) (w : World) : (part 3 #[.int .i64 a, .int .i64 b] (1 * 1)).run Try.prog w = .ok (.int .i64 b) w := by kernel_rfl
theorem cells_int : Try.prog.cellsOf 3 = 1 := by kernel_rfl
theorem info_int : ∃ i, Try.prog.info? 3 = some i := info_of_underlying Try.underlying3
/-- The entries es are the pairs and values L. -/
def PMap (es : List MapEntry) (L : List ((Int × Int) × Value)) : Prop := es.map (fun e => (e.key, e.val)) = L.map (fun x => (pv x.1, x.2))
theorem PMap.push {es : Array MapEntry} {L : List ((Int × Int) × Value)} (h : PMap es.toList L) (p : Int × Int) (v : Value) (c : Nat) : PMap (es.push { key := pv p, val := v, born := c }).toList (L ++ [(p, v)]) := by
  unfold PMap at *
  simp [h]
/-- As a map of pairs lies. -/
def PM (w : World) (g : Nat) (L : List ((Int × Int) × Value)) : Prop := ∃ es c, w.heap[g]? = some (.map es c) ∧ PMap es.toList L
end Go.Proofs.Ytiikmpgadmmjeaa
