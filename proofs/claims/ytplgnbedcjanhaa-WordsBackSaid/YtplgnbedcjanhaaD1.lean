/- Sets in memory, and the contracts of homographref01 that later layers' references call. No function of the program is named here. -/
import Derived.Test.YtplgnbedcjanhaaRows
import Derived.Test.YtplgnbedcjanhaaA0
import Derived.Test.YtplgnbedcjanhaaQA
import Derived.WalkKit
import Derived.WalkSpells
import Derived.WalkLawsBesides
import Derived.LoopN
import Derived.Lib.Hide
import Derived.OneCell
import Derived.StillTailTactics
import Derived.WalkSmall
set_option maxRecDepth 20000
namespace Go.Proofs.Ytplgnbedcjanhaa
open Go.RowKit

theorem ret_bool {a b : Bool} (h : a = b) : Ending.returned (.bool a) = .returned (.bool b) := by rw [h]
theorem setCell_block {w : World} {b i : Nat} {c : Array Value} {t : TypeId} {fz : Nat × Nat} (h : w.heap[b]? = some (.cells c t fz)) (u : Value) : (w.setCell ⟨b, i, none⟩ u).heap[b]? = some (.cells (c.setIfInBounds i u) t fz) := by
  have hlt := lt_of_block h
  have h' : w.heap[b] = .cells c t fz := by simpa [Array.getElem?_eq_getElem hlt] using h
  show (w.heap.modify b _)[b]? = _
  rw [Array.getElem?_eq_getElem (by simpa using hlt), Array.getElem_modify_self, h']
  rfl
theorem wd_zero (i : Nat) : wd 0 i = 0 := by simp [wd]
/-- A set stored into block b of one's own. -/
theorem below_set4 {B b : Nat} {a w : World} (h : Below B a w) (hb : B ≤ b) (v0 v1 v2 v3 : Value) :
    Below B a ((((w.setCell ⟨b, 0, none⟩ v0).setCell ⟨b, 1, none⟩ v1).setCell ⟨b, 2, none⟩ v2).setCell ⟨b, 3, none⟩ v3) :=
  (((h.setCell (p := ⟨b, 0, none⟩) hb _).setCell (p := ⟨b, 1, none⟩) hb _).setCell (p := ⟨b, 2, none⟩) hb _).setCell (p := ⟨b, 3, none⟩) hb _
theorem num_succ (k : Nat) : Value.int IntKind.i64 (↑k + 1) = Value.int IntKind.i64 ↑(k + 1) := by simp

/-- The bytes from lo up to hi. -/
def rangeP (lo hi : Nat) : Nat → Bool := fun b => decide (lo ≤ b) && decide (b ≤ hi)
theorem range_start (lo hi : Nat) : ∀ k, k ≤ lo → upTo (rangeP lo hi) k = 0
  | 0, _ => rfl
  | k + 1, h => by
    rw [upTo, range_start lo hi k (by omega)]
    have : rangeP lo hi k = false := by unfold rangeP; simp; omega
    rw [this]; rfl
theorem range_step (lo hi k : Nat) (h1 : lo ≤ k) (h2 : k ≤ hi) : put (upTo (rangeP lo hi) k) k = upTo (rangeP lo hi) (k + 1) := by
  have : rangeP lo hi k = true := by unfold rangeP; simp; omega
  rw [upTo, this]; rfl
theorem range_end (lo hi k : Nat) (h1 : hi < k) (h2 : k ≤ 256) : upTo (rangeP lo hi) k = ofP (rangeP lo hi) := by
  apply bv_ext
  intro b hb
  rw [get_ofP _ _ hb, get_upTo _ _ _ h2]
  unfold rangeP
  by_cases h : b < k
  · simp [h]
  · have : ¬ b ≤ hi := by omega
    simp [this]
/-- The set of a row of bytes. -/
def ofB (l : List UInt8) : BitVec 256 := ofP (fun b => l.any (fun c => c.toNat == b))
theorem ofB_nil : ofB [] = 0 := by
  apply bv_ext
  intro b hb
  unfold ofB
  rw [get_ofP _ _ hb]
  simp
theorem ofB_snoc (l : List UInt8) (c : UInt8) : put (ofB l) c.toNat = ofB (l ++ [c]) := by
  apply bv_ext
  intro b hb
  have hc : c.toNat < 256 := c.toNat_lt
  rw [get_put _ _ _ hc]
  unfold ofB
  rw [get_ofP _ _ hb, get_ofP _ _ hb, List.any_append]
  have e : (c.toNat == b) = decide (b = c.toNat) := by rw [Bool.eq_iff_iff, beq_iff_eq, decide_eq_true_iff]; exact eq_comm
  simp [e]
theorem take_snoc (s : ByteArray) (k : Nat) (h : k < s.size) : s.data.toList.take (k + 1) = s.data.toList.take k ++ [s[k]] := by
  rw [List.take_succ_eq_append_getElem (by simpa using h)]; rfl
/-- From block b, place off on, the sets l lie one behind the other. -/
def SetsAt (w : World) (b off : Nat) (l : List (BitVec 256)) : Prop := b < w.heap.size ∧ ∀ i (_ : i < l.length), ∀ j, j < 4 → w.cell? ⟨b, off + i * 4 + j, none⟩ = some (.int .u64 (wd l[i] j))
/-- The slice value v reads as l. -/
def Sl (w : World) (v : Value) (l : List (BitVec 256)) : Prop := l.length ≤ maxLen ∧ ((l = [] ∧ ∃ a cap, v = .slice a 0 cap) ∨ ∃ b off cap, v = .slice (some ⟨b, off, none⟩) l.length cap ∧ SetsAt w b off l)
theorem SetsAt.below {w w' : World} {b off : Nat} {l : List (BitVec 256)} (h : SetsAt w b off l) (hb : Below w.heap.size w w') : SetsAt w' b off l :=
  ⟨Nat.lt_of_lt_of_le h.1 hb.size, fun i hi j hj => by rw [hb.cell (p := ⟨b, _, none⟩) h.1]; exact h.2 i hi j hj⟩
theorem SetsAt.lower {w w' : World} {b off B : Nat} {l : List (BitVec 256)} (h : SetsAt w b off l) (hb : Below B w w') (hB : b < B) : SetsAt w' b off l :=
  ⟨Nat.lt_of_lt_of_le h.1 hb.size, fun i hi j hj => by rw [hb.cell (p := ⟨b, _, none⟩) hB]; exact h.2 i hi j hj⟩
theorem Sl.below {w w' : World} {v : Value} {l : List (BitVec 256)} (h : Sl w v l) (hb : Below w.heap.size w w') : Sl w' v l := by
  rcases h with ⟨h0, h | ⟨b, off, cap, hv, h⟩⟩
  · exact ⟨h0, .inl h⟩
  · exact ⟨h0, .inr ⟨b, off, cap, hv, h.below hb⟩⟩
theorem SetsAt.cells {w : World} {b off : Nat} {l : List (BitVec 256)} (h : SetsAt w b off l) (i : Nat) (hi : i < l.length) :
    w.cell? ⟨b, off + i * 4, none⟩ = some (.int .u64 (wd l[i] 0)) ∧ w.cell? ⟨b, off + i * 4 + 1, none⟩ = some (.int .u64 (wd l[i] 1)) ∧ w.cell? ⟨b, off + i * 4 + 1 + 1, none⟩ = some (.int .u64 (wd l[i] 2)) ∧ w.cell? ⟨b, off + i * 4 + 1 + 1 + 1, none⟩ = some (.int .u64 (wd l[i] 3)) :=
  ⟨h.2 i hi 0 (by omega), h.2 i hi 1 (by omega), h.2 i hi 2 (by omega), h.2 i hi 3 (by omega)⟩
/-- What one of them has. -/
def unionL (l : List (BitVec 256)) : BitVec 256 := l.foldl (· ||| ·) 0
theorem union_snoc (l : List (BitVec 256)) (x : BitVec 256) : unionL (l ++ [x]) = unionL l ||| x := by simp [unionL]
theorem union_nil_wd (i : Nat) : wd (unionL []) i = 0 := wd_zero i
end Go.Proofs.Ytplgnbedcjanhaa
