/- Texts that a proof rests on: Sets in memory, and the contracts of homographref01 that later layers' references call. No function of the program is named here. -/
import Derived.Test.YtamgldhnfcikbaaRows
import Derived.Test.YtamgldhnfcikbaaK01
import Derived.WalkKit
import Derived.WalkSpells
import Derived.WalkLawsBesides
import Derived.LoopN
import Derived.Lib.Hide
import Derived.OneCell
import Derived.StillTailTactics
import Derived.WalkSmall
set_option maxRecDepth 20000
namespace Go.Proofs.Ytamgldhnfcikbaa
open Go.RowKit

theorem setCell_block {w : World} {b i : Nat} {c : Array Value} {t : TypeId} {fz : Nat × Nat} (h : w.heap[b]? = some (.cells c t fz)) (u : Value) : (w.setCell ⟨b, i, none⟩ u).heap[b]? = some (.cells (c.setIfInBounds i u) t fz) := by
  have hlt := lt_of_block h
  have h' : w.heap[b] = .cells c t fz := by simpa [Array.getElem?_eq_getElem hlt] using h
  show (w.heap.modify b _)[b]? = _
  rw [Array.getElem?_eq_getElem (by simpa using hlt), Array.getElem_modify_self, h']
  rfl
theorem num_succ (k : Nat) : Value.int IntKind.i64 (↑k + 1) = Value.int IntKind.i64 ↑(k + 1) := by simp

def rangeP (lo hi : Nat) : Nat → Bool := fun b => decide (lo ≤ b) && decide (b ≤ hi)
def ofB (l : List UInt8) : BitVec 256 := ofP (fun b => l.any (fun c => c.toNat == b))
def SetsAt (w : World) (b off : Nat) (l : List (BitVec 256)) : Prop := b < w.heap.size ∧ ∀ i (_ : i < l.length), ∀ j, j < 4 → w.cell? ⟨b, off + i * 4 + j, none⟩ = some (.int .u64 (wd l[i] j))
def Sl (w : World) (v : Value) (l : List (BitVec 256)) : Prop := l.length ≤ maxLen ∧ ((l = [] ∧ ∃ a cap, v = .slice a 0 cap) ∨ ∃ b off cap, v = .slice (some ⟨b, off, none⟩) l.length cap ∧ SetsAt w b off l)
theorem SetsAt.below {w w' : World} {b off : Nat} {l : List (BitVec 256)} (h : SetsAt w b off l) (hb : Below w.heap.size w w') : SetsAt w' b off l :=
  ⟨Nat.lt_of_lt_of_le h.1 hb.size, fun i hi j hj => by rw [hb.cell (p := ⟨b, _, none⟩) h.1]; exact h.2 i hi j hj⟩
theorem Sl.below {w w' : World} {v : Value} {l : List (BitVec 256)} (h : Sl w v l) (hb : Below w.heap.size w w') : Sl w' v l := by
  rcases h with ⟨h0, h | ⟨b, off, cap, hv, h⟩⟩
  · exact ⟨h0, .inl h⟩
  · exact ⟨h0, .inr ⟨b, off, cap, hv, h.below hb⟩⟩
theorem SetsAt.cells {w : World} {b off : Nat} {l : List (BitVec 256)} (h : SetsAt w b off l) (i : Nat) (hi : i < l.length) :
    w.cell? ⟨b, off + i * 4, none⟩ = some (.int .u64 (wd l[i] 0)) ∧ w.cell? ⟨b, off + i * 4 + 1, none⟩ = some (.int .u64 (wd l[i] 1)) ∧ w.cell? ⟨b, off + i * 4 + 1 + 1, none⟩ = some (.int .u64 (wd l[i] 2)) ∧ w.cell? ⟨b, off + i * 4 + 1 + 1 + 1, none⟩ = some (.int .u64 (wd l[i] 3)) :=
  ⟨h.2 i hi 0 (by omega), h.2 i hi 1 (by omega), h.2 i hi 2 (by omega), h.2 i hi 3 (by omega)⟩
def unionL (l : List (BitVec 256)) : BitVec 256 := l.foldl (· ||| ·) 0
end Go.Proofs.Ytamgldhnfcikbaa
