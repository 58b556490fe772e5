/- Texts that a proof rests on: Contracts: Of, Count, and the references of Of, Not, Count, First. | Rows of sets in memory; contracts of Union and Inter. -/
import Derived.Test.YtooaamepflkgnaaDoorN05
import Derived.StillTailTactics
set_option maxRecDepth 20000
namespace Go.Proofs.YtooaamepflkgnaaDoor
open Go.RowKit

/-- The set of a row of bytes. -/
def ofB (l : List UInt8) : BitVec 256 := ofP (fun b => l.any (fun c => c.toNat == b))
theorem ofB_nil : ofB [] = 0 := by
  apply bv_ext
  intro b hb
  unfold ofB
  rw [get_ofP _ _ hb]
  simp
theorem ofB_snoc (l : List UInt8) (c : UInt8) : put (ofB l) c.toNat = ofB (l ++ [c]) := by
  apply bv_ext
  intro b hb
  have hc : c.toNat < 256 := c.toNat_lt
  rw [get_put _ _ _ hc]
  unfold ofB
  rw [get_ofP _ _ hb, get_ofP _ _ hb, List.any_append]
  have e : (c.toNat == b) = decide (b = c.toNat) := by rw [Bool.eq_iff_iff, beq_iff_eq, decide_eq_true_iff]; exact eq_comm
  simp [e]
theorem take_snoc (s : ByteArray) (k : Nat) (h : k < s.size) : s.data.toList.take (k + 1) = s.data.toList.take k ++ [s[k]] := by
  rw [List.take_succ_eq_append_getElem (by simpa using h)]; rfl
/-- A set boxed for a call, and kept. -/
theorem box_start (w : World) (s : BitVec 256) : SetAt (w.alloc (.cells #[.int .u64 (wd s 0), .int .u64 (wd s 1), .int .u64 (wd s 2), .int .u64 (wd s 3)] 25)) w.heap.size s ∧ Below w.heap.size w (w.alloc (.cells #[.int .u64 (wd s 0), .int .u64 (wd s 1), .int .u64 (wd s 2), .int .u64 (wd s 3)] 25)) :=
  ⟨SetAt.new w s, (Below.refl _ _).alloc (Nat.le_refl _) _⟩
/-- The bytes below k that a set hasn't. -/
theorem not_end (s : BitVec 256) : upTo (fun b => !s.getLsbD b) 256 = ~~~s := by
  apply bv_ext
  intro b hb
  rw [get_upTo _ _ _ (Nat.le_refl _), BitVec.getLsbD_not]
theorem not_start (w : World) (s : BitVec 256) :
    SetAt (((w.alloc (.cells #[.int .u64 (wd s 0), .int .u64 (wd s 1), .int .u64 (wd s 2), .int .u64 (wd s 3)] 25)).alloc (.cells #[.int .u64 0, .int .u64 0, .int .u64 0, .int .u64 0] 25)).alloc (.cells #[.int .u64 0, .int .u64 0, .int .u64 0, .int .u64 0] 25)) w.heap.size s ∧
    SetAt (((w.alloc (.cells #[.int .u64 (wd s 0), .int .u64 (wd s 1), .int .u64 (wd s 2), .int .u64 (wd s 3)] 25)).alloc (.cells #[.int .u64 0, .int .u64 0, .int .u64 0, .int .u64 0] 25)).alloc (.cells #[.int .u64 0, .int .u64 0, .int .u64 0, .int .u64 0] 25)) (w.heap.size + 1) 0 ∧
    SetAt (((w.alloc (.cells #[.int .u64 (wd s 0), .int .u64 (wd s 1), .int .u64 (wd s 2), .int .u64 (wd s 3)] 25)).alloc (.cells #[.int .u64 0, .int .u64 0, .int .u64 0, .int .u64 0] 25)).alloc (.cells #[.int .u64 0, .int .u64 0, .int .u64 0, .int .u64 0] 25)) (w.heap.size + 1 + 1) 0 ∧
    Below w.heap.size w (((w.alloc (.cells #[.int .u64 (wd s 0), .int .u64 (wd s 1), .int .u64 (wd s 2), .int .u64 (wd s 3)] 25)).alloc (.cells #[.int .u64 0, .int .u64 0, .int .u64 0, .int .u64 0] 25)).alloc (.cells #[.int .u64 0, .int .u64 0, .int .u64 0, .int .u64 0] 25)) := by
  obtain ⟨h1, h2, h3⟩ := @atStart_two (w.alloc (.cells #[.int .u64 (wd s 0), .int .u64 (wd s 1), .int .u64 (wd s 2), .int .u64 (wd s 3)] 25))
  refine ⟨(SetAt.new w s).grown h3, by simpa using h2, by simpa using h1, ((box_start w s).2).trans (h3.mono (by simp))⟩
end Go.Proofs.YtooaamepflkgnaaDoor
set_option maxRecDepth 20000
namespace Go.Proofs.YtooaamepflkgnaaDoor
open Go.RowKit

/-- From block b, place off on, the sets l lie one behind the other. -/
def SetsAt (w : World) (b off : Nat) (l : List (BitVec 256)) : Prop := b < w.heap.size ∧ ∀ i (_ : i < l.length), ∀ j, j < 4 → w.cell? ⟨b, off + i * 4 + j, none⟩ = some (.int .u64 (wd l[i] j))
/-- The slice value v reads as l. -/
def Sl (w : World) (v : Value) (l : List (BitVec 256)) : Prop := l.length ≤ maxLen ∧ ((l = [] ∧ ∃ a cap, v = .slice a 0 cap) ∨ ∃ b off cap, v = .slice (some ⟨b, off, none⟩) l.length cap ∧ SetsAt w b off l)
theorem SetsAt.below {w w' : World} {b off : Nat} {l : List (BitVec 256)} (h : SetsAt w b off l) (hb : Below w.heap.size w w') : SetsAt w' b off l :=
  ⟨Nat.lt_of_lt_of_le h.1 hb.size, fun i hi j hj => by rw [hb.cell (p := ⟨b, _, none⟩) h.1]; exact h.2 i hi j hj⟩
theorem SetsAt.lower {w w' : World} {b off B : Nat} {l : List (BitVec 256)} (h : SetsAt w b off l) (hb : Below B w w') (hB : b < B) : SetsAt w' b off l :=
  ⟨Nat.lt_of_lt_of_le h.1 hb.size, fun i hi j hj => by rw [hb.cell (p := ⟨b, _, none⟩) hB]; exact h.2 i hi j hj⟩
theorem Sl.below {w w' : World} {v : Value} {l : List (BitVec 256)} (h : Sl w v l) (hb : Below w.heap.size w w') : Sl w' v l := by
  rcases h with ⟨h0, h | ⟨b, off, cap, hv, h⟩⟩
  · exact ⟨h0, .inl h⟩
  · exact ⟨h0, .inr ⟨b, off, cap, hv, h.below hb⟩⟩
theorem SetsAt.cells {w : World} {b off : Nat} {l : List (BitVec 256)} (h : SetsAt w b off l) (i : Nat) (hi : i < l.length) :
    w.cell? ⟨b, off + i * 4, none⟩ = some (.int .u64 (wd l[i] 0)) ∧ w.cell? ⟨b, off + i * 4 + 1, none⟩ = some (.int .u64 (wd l[i] 1)) ∧ w.cell? ⟨b, off + i * 4 + 1 + 1, none⟩ = some (.int .u64 (wd l[i] 2)) ∧ w.cell? ⟨b, off + i * 4 + 1 + 1 + 1, none⟩ = some (.int .u64 (wd l[i] 3)) :=
  ⟨h.2 i hi 0 (by omega), h.2 i hi 1 (by omega), h.2 i hi 2 (by omega), h.2 i hi 3 (by omega)⟩
/-- What one of them has. -/
def unionL (l : List (BitVec 256)) : BitVec 256 := l.foldl (· ||| ·) 0
theorem union_snoc (l : List (BitVec 256)) (x : BitVec 256) : unionL (l ++ [x]) = unionL l ||| x := by simp [unionL]
theorem union_nil_wd (i : Nat) : wd (unionL []) i = 0 := wd_zero i
/-- All bytes. -/
def full : BitVec 256 := ~~~0
/-- What all of them have. -/
def interL (l : List (BitVec 256)) : BitVec 256 := l.foldl (· &&& ·) full
theorem inter_snoc (l : List (BitVec 256)) (x : BitVec 256) : interL (l ++ [x]) = interL l &&& x := by simp [interL]
theorem zero_then {w w1 : World} (hb : Below (w.alloc (.cells #[.int .u64 0, .int .u64 0, .int .u64 0, .int .u64 0] 25)).heap.size (w.alloc (.cells #[.int .u64 0, .int .u64 0, .int .u64 0, .int .u64 0] 25)) w1) : SetAt w1 w.heap.size 0 ∧ Below w.heap.size w w1 :=
  ⟨(SetAt.zero w).grown hb, ((Below.refl _ _).alloc (Nat.le_refl _) _).trans (hb.mono (by simp))⟩
end Go.Proofs.YtooaamepflkgnaaDoor
