/- Texts that a proof rests on: Contracts: endOfRun, runs, and the iterator that runs hands back. -/
import Derived.Test.YtpfhhdiipedklaaDoorK05
import Derived.Test.YtpfhhdiipedklaaDoorK03
import Derived.RangeFuncNested
import Derived.RangeFuncBound
import Derived.RangeFuncCalls
import Derived.RangeFuncLeaves
import Derived.RangeFuncBox
import Derived.Shelf.Abstract
import Derived.Shelf.RegionOpen
import Derived.OwnWalkIn
import Derived.TacticsInMore
import Derived.LoopNIn
import Derived.LoopIn
import Derived.Maps.AppendAt
set_option maxRecDepth 100000
namespace Go.Proofs.YtpfhhdiipedklaaDoor
open Go.RowKit Go.Shelf
attribute [local go_sem] Oper.semAt_some

/-- Below n₀ all is as it was, and each block that holds a set holds it. -/
def KeepSets (n₀ : Nat) (W W' : World) : Prop := Below n₀ W W' ∧ ∀ (k : Nat) (c : Array Value) (fz : Nat × Nat), W.heap[k]? = some (Obj.cells c 33 fz) → W'.heap[k]? = some (Obj.cells c 33 fz)
theorem KeepSets.set {n₀ : Nat} {W W' : World} (h : KeepSets n₀ W W') {b : Nat} {s : BitVec 256} (hs : SetAt W b s) : SetAt W' b s := h.2 b _ _ hs
theorem KeepSets.trans {n₀ : Nat} {A B C : World} (h : KeepSets n₀ A B) (k : KeepSets n₀ B C) : KeepSets n₀ A C := ⟨h.1.trans k.1, fun i c fz hi => k.2 i c fz (h.2 i c fz hi)⟩
theorem keepSets_b {n₀ : Nat} {w : World} (hn : n₀ ≤ w.heap.size) (W : World) (l : Nat) (o o' : Obj) (hl : w.heap.size ≤ l) (h : W.heap[l]? = some o) (h1 : o.isCells = false) (h2 : o.isWalk = false) : KeepSets n₀ W (W.putObj l o') :=
  ⟨belowK_b hn W l o o' hl h h1 h2, fun k c fz hk => by
    by_cases e : k = l
    · subst e; rw [hk] at h; cases h; cases h1
    · rw [World.putObj_heap_other e]; exact hk⟩
/-- A pair's value. -/
def pairV (q : Nat × Nat) : Value := .agg #[.int .u8 q.1, .int .u8 q.2]
theorem grownN_of_below {W W' : World} (h : Below W.heap.size W W') : W.grownBy W' none := ⟨h.os, h.tape, h.output, h.size, fun k hk _ => h.block k hk⟩
theorem Tab.lower {w w' : World} {n₀ : Nat} (h : Tab w) (hb : Below n₀ w w') (hg : 0 < n₀) : Tab w' :=
  ⟨Nat.lt_of_lt_of_le h.1 hb.size, fun j hj => by rw [hb.cell (p := ⟨_, j, none⟩) hg]; exact h.2 j hj⟩
/-- How much is left, off the two slots. -/
def leftV (v4 v5 : Value) : Nat := match v5 with | .bool true => 257 - (intOf v4).toNat | _ => 0
/-- Where the iterator stands: p bytes are through. -/
def Stands (s : BitVec 256) (p : Nat) (v4 v5 : Value) : Prop := (fst s p < 256 ∧ v4 = .int .u8 (fst s p) ∧ v5 = .bool true) ∨ (256 ≤ fst s p ∧ v4 = .int .u8 0 ∧ v5 = .bool false)
end Go.Proofs.YtpfhhdiipedklaaDoor
