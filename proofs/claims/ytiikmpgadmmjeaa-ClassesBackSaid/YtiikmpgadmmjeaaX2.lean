/- A walk as it lies; the contract of minim.newWalk. -/
import Derived.Test.YtiikmpgadmmjeaaX1
set_option maxRecDepth 100000
namespace Go.Proofs.Ytiikmpgadmmjeaa
open Go.RowKit

/-- Two that are ready, in either order. -/
theorem goes_two {P : Program} {ops : Array Oper} {Q : Exit → Act → World → Prop} {md : Region.Mode} {S : World → Prop} {z n i j : Nat} {l : Array Bool} {a : Act} {w : World} {o o' : Oper} (hr : Region.ready md ops l = [i, j]) (ho : ops[i]? = some o) (ho' : ops[j]? = some o')
    (h : ∀ K' : Act → World → Prop, Shut (∀ a w, (i ≠ z → S w) → ((i ≠ z → S w) → Goes P md ops Q S z n (l.setIfInBounds i true) a w) → K' a w) → if Region.wanted o (yielded ops a.tmps) = true then Oper.wp P o a w K' Q else K' (a.put o.dst undef) w)
    (h' : ∀ K' : Act → World → Prop, Shut (∀ a w, (j ≠ z → S w) → ((j ≠ z → S w) → Goes P md ops Q S z n (l.setIfInBounds j true) a w) → K' a w) → if Region.wanted o' (yielded ops a.tmps) = true then Oper.wp P o' a w K' Q else K' (a.put o'.dst undef) w) : Goes P md ops Q S z (n + 1) l a w := by
  refine ⟨fun h0 => (by rw [hr] at h0; cases h0), fun k hk => ?_⟩
  rw [hr, List.mem_cons, List.mem_singleton] at hk
  rcases hk with rfl | rfl
  · exact wpOp_step ho fun K' hK => h K' fun a w h1 h2 => hK a w ⟨h1, h2 h1⟩
  · exact wpOp_step ho' fun K' hK => h' K' fun a w h1 h2 => hK a w ⟨h1, h2 h1⟩
/-- All blocks that were there are kept but some. -/
structure Oth (w w' : World) (S : Nat → Prop) : Prop where
  os : w'.os = w.os
  tape : w'.tape = w.tape
  output : w'.output = w.output
  size : w.heap.size ≤ w'.heap.size
  block : ∀ k, k < w.heap.size → ¬ S k → w'.heap[k]? = w.heap[k]?
theorem Oth.refl (w : World) (S : Nat → Prop) : Oth w w S := ⟨rfl, rfl, rfl, Nat.le_refl _, fun _ _ _ => rfl⟩
theorem Oth.trans {a b c : World} {S T : Nat → Prop} (h : Oth a b S) (k : Oth b c T) (hs : ∀ i, i < a.heap.size → ¬ S i → ¬ T i) : Oth a c S :=
  ⟨k.os.trans h.os, k.tape.trans h.tape, k.output.trans h.output, Nat.le_trans h.size k.size, fun i hi hn => (k.block i (Nat.lt_of_lt_of_le hi h.size) (hs i hi hn)).trans (h.block i hi hn)⟩
theorem Oth.of_below {w w' : World} {S : Nat → Prop} (h : Below w.heap.size w w') : Oth w w' S := ⟨h.os, h.tape, h.output, h.size, fun k hk _ => h.block k hk⟩
theorem Oth.below {w w' : World} {S : Nat → Prop} {N : Nat} (h : Oth w w' S) (hN : N ≤ w.heap.size) (hs : ∀ k, k < N → ¬ S k) : Below N w w' := ⟨h.os, h.tape, h.output, h.size, fun k hk => h.block k (by omega) (hs k hk)⟩
theorem Oth.of_gb {w w' : World} {S : Nat → Prop} {row : Option Nat} (h : w.grownBy w' row) (hs : ∀ k, row = some k → S k) : Oth w w' S := ⟨h.os, h.tape, h.output, h.size, fun k hk hn => h.block k hk fun e => hn (hs k e.symm)⟩
theorem Oth.of_set (w : World) {S : Nat → Prop} (a : Addr) (v : Value) (hs : S a.block) : Oth w (w.setCell a v) S :=
  ⟨rfl, rfl, rfl, by simp, fun k hk hn => Below.heap_setCell _ _ _ _ (show k ≠ a.block from fun e => hn (e ▸ hs))⟩
theorem Oth.of_map (w : World) {S : Nat → Prop} (r : Nat) (es : Array MapEntry) (c : Nat) (hs : S r) : Oth w (setMap w r es c) S :=
  ⟨rfl, rfl, rfl, by simp [setMap], fun k hk hn => by
    have : r ≠ k := fun e => hn (e ▸ hs)
    simp [setMap, this]⟩
theorem Oth.cell {w w' : World} {S : Nat → Prop} (h : Oth w w' S) {a : Addr} {v : Value} (hc : w.cell? a = some v) (hs : ¬ S a.block) : w'.cell? a = some v := by
  rw [World.cell?_of_block (h.block _ (cell_lt hc) hs)]; exact hc
/-- Pairs in a row. -/
def flatP (ps : List (Int × Int)) : List Value := ps.flatMap fun p => [.int .i64 p.1, .int .i64 p.2]
theorem flatP_length (ps : List (Int × Int)) : (flatP ps).length = ps.length * 2 := by
  induction ps with
  | nil => rfl
  | cons p ps ih => simp only [flatP, List.flatMap_cons, List.length_append, List.length_cons, List.length_nil] at *; omega
theorem flatP_snoc (ps : List (Int × Int)) (p : Int × Int) : flatP (ps ++ [p]) = flatP ps ++ [.int .i64 p.1, .int .i64 p.2] := by simp [flatP]
theorem flatP_at (ps : List (Int × Int)) : ∀ i (h : i < ps.length) j, j < 2 → (flatP ps)[i * 2 + j]? = [Value.int .i64 ps[i].1, .int .i64 ps[i].2][j]? := by
  induction ps with
  | nil => intro i h; simp at h
  | cons p ps ih =>
    intro i h j hj
    rw [show flatP (p :: ps) = [.int .i64 p.1, .int .i64 p.2] ++ flatP ps from rfl]
    cases i with
    | zero =>
      rw [Nat.zero_mul, Nat.zero_add, List.getElem?_append_left (by simpa using hj)]; rfl
    | succ i =>
      rw [show (i + 1) * 2 + j = 2 + (i * 2 + j) by omega, List.getElem?_append_right (by simp)]
      simpa using ih i (by simpa using h) j hj
theorem pm_other {w w' : World} {b : Nat} {L : List ((Int × Int) × Value)} (h : PM w b L) (e : w'.heap[b]? = w.heap[b]?) : PM w' b L := by
  obtain ⟨es, c, h1, h2⟩ := h
  exact ⟨es, c, e.trans h1, h2⟩
theorem pm_lt {w : World} {b : Nat} {L : List ((Int × Int) × Value)} (h : PM w b L) : b < w.heap.size := by
  obtain ⟨es, c, h1, h2⟩ := h
  exact lt_of_block h1
end Go.Proofs.Ytiikmpgadmmjeaa
