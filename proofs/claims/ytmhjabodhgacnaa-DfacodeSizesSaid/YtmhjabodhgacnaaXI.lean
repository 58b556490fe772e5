/- Contract: the reference's Arcs: the longest runs of bytes that lead to the same. -/
import Derived.Test.YtmhjabodhgacnaaXF
import Derived.Test.YtmhjabodhgacnaaXB
import Derived.Deep.AppendLies
set_option maxRecDepth 100000
namespace Go.Proofs.Ytmhjabodhgacnaa
open Go.RowKit

/-- Arcs, cell by cell. -/
def flatA (l : List Arc3) : List Value := l.flatMap fun a => [.int .u8 a.lo, .int .u8 a.hi, .int .i64 a.dest]
theorem flatA_snoc (l : List Arc3) (a : Arc3) : flatA (l ++ [a]) = flatA l ++ [.int .u8 a.lo, .int .u8 a.hi, .int .i64 a.dest] := by simp [flatA]
theorem flatA_length (l : List Arc3) : (flatA l).length = l.length * 3 := by
  induction l with
  | nil => rfl
  | cons q l ih => simp [flatA] at ih ⊢; omega
theorem flatA_last (l : List Arc3) (a : Arc3) (i : Nat) : (flatA (l ++ [a]))[l.length * 3 + i]? = [Value.int .u8 a.lo, .int .u8 a.hi, .int .i64 a.dest][i]? := by
  rw [flatA_snoc, ← flatA_length, List.getElem?_append_right (Nat.le_add_right _ _), Nat.add_sub_cancel_left]
theorem flatA_set (l : List Arc3) (a : Arc3) (b : Nat) : (flatA (l ++ [a])).set (l.length * 3 + 1) (.int .u8 b) = flatA (l ++ [⟨a.lo, b, a.dest⟩]) := by
  rw [flatA_snoc, flatA_snoc, ← flatA_length, List.set_append_right _ _ (Nat.le_add_right _ _), Nat.add_sub_cancel_left]
  rfl
theorem flatA_at (l : List Arc3) : ∀ i (h : i < l.length) j, (j < 3) → (flatA l)[i * 3 + j]? = [Value.int .u8 l[i].lo, .int .u8 l[i].hi, .int .i64 l[i].dest][j]? := by
  induction l with
  | nil => intro i h; simp at h
  | cons q l ih =>
    intro i h j hj
    have e : flatA (q :: l) = [.int .u8 q.lo, .int .u8 q.hi, .int .i64 q.dest] ++ flatA l := rfl
    rw [e]
    cases i with
    | zero => rw [List.getElem?_append_left (by simpa using hj)]; simp
    | succ i =>
      rw [List.getElem?_append_right (by simp; omega)]
      have := ih i (by simpa using h) j hj
      rw [show (i + 1) * 3 + j - [Value.int .u8 q.lo, .int .u8 q.hi, .int .i64 q.dest].length = i * 3 + j from by simp; omega, this]
      simp
/-- A row of one's own reads as arcs. -/
theorem arcs_of_row {w : World} {B : Nat} {v : Value} {l : List Arc3} (h : w.ownsRow B 69 3 v l.length (flatA l)) : ArcsAt w v l := by
  have h0 := h
  rcases h.2 with ⟨rfl, h1⟩ | ⟨g, cap, cur, rfl, _⟩
  · have : l = [] := List.eq_nil_of_length_eq_zero h1
    subst this; exact ArcsAt.nil w
  · refine ⟨_, cap, rfl, fun i hi => ⟨g, 0, rfl, ?_, ?_, ?_⟩⟩
    · rw [Nat.zero_add]; have := h0.cellAt (i * 3) (by omega); rw [this]; have := flatA_at l i hi 0 (by omega); simpa using this
    · rw [Nat.zero_add, h0.cellAt (i * 3 + 1) (by omega), flatA_at l i hi 1 (by omega)]; rfl
    · rw [Nat.zero_add, h0.cellAt (i * 3 + 2) (by omega), flatA_at l i hi 2 (by omega)]; rfl
/-- So many numbers, as cells. -/
def Ints (f : Nat → Int) : Array Value := ((List.range 256).map fun i => Value.int .i64 (f i)).toArray
theorem ints_at {i : Nat} (f : Nat → Int) (h : i < 256) : (Ints f)[i]? = some (.int .i64 (f i)) := by simp [Ints, h]
theorem push3 {N B n sz : Nat} {e : TypeId} {w0 w w7 w8 : World} {v : Value} {xs : List Value} (h : Below N w0 w) (hrow : w.ownsRow B e sz v n xs) (hB : N ≤ B) (hN : N ≤ w.heap.size) (h7 : Below w.heap.size w w7) (hg : w7.grownBy w8 v.ownBlock) : Below N w0 w8 :=
  (h.trans (h7.mono hN)).grown hg (by have := h7.size; omega) (fun k hk => by have := (hrow.lt k hk).1; omega)
theorem row_form {w : World} {B n sz : Nat} {e : TypeId} {v : Value} {l : List Value} (h : w.ownsRow B e sz v n l) : ∃ a cp, v = .slice a n cp := by
  rcases h.2 with ⟨rfl, rfl⟩ | ⟨g, cap, cur, rfl, _⟩
  · exact ⟨_, _, rfl⟩
  · exact ⟨_, _, rfl⟩
theorem infoArc : (Try.prog.info? 69).map (fun i => (i.zero, i.size, i.bytes)) = some (some (.agg #[.int .u8 0, .int .u8 0, .int .i64 0]), 3, 16) := by kernel_rfl
theorem arcPut_neg {l : List Arc3} {b : Nat} {t : Int} (h : t < 0) : arcPut l b t = l := by unfold arcPut; rw [if_pos h]
theorem arcPut_nil {b : Nat} {t : Int} (h : ¬ t < 0) : arcPut [] b t = [⟨b, b, t⟩] := by unfold arcPut; rw [if_neg h]; rfl
theorem arcPut_new {l : List Arc3} {x : Arc3} {b : Nat} {t : Int} (h : ¬ t < 0) (hx : ¬ (x.hi + 1 = b ∧ x.dest = t)) : arcPut (l ++ [x]) b t = (l ++ [x]) ++ [⟨b, b, t⟩] := by
  unfold arcPut
  rw [if_neg h, List.getLast?_append, List.getLast?_singleton, Option.some_or]
  simp only [if_neg hx]
theorem arcPut_same {l : List Arc3} {x : Arc3} {b : Nat} {t : Int} (h : ¬ t < 0) (hx : x.hi + 1 = b ∧ x.dest = t) : arcPut (l ++ [x]) b t = l ++ [⟨x.lo, b, x.dest⟩] := by
  unfold arcPut
  rw [if_neg h, List.getLast?_append, List.getLast?_singleton, Option.some_or]
  simp only []
  rw [if_pos hx, List.dropLast_concat, hx.2]
theorem arc_cases (l : List Arc3) : l = [] ∨ ∃ l' x, l = l' ++ [x] := by
  rcases List.eq_nil_or_concat l with h | ⟨l', x, h⟩
  · exact .inl h
  · exact .inr ⟨l', x, by simpa using h⟩
end Go.Proofs.Ytmhjabodhgacnaa
