/- Machines without choices: as they lie, and where they go. -/
import Derived.Test.YtmhjabodhgacnaaXN
set_option maxRecDepth 100000
namespace Go.Proofs.Ytmhjabodhgacnaa
open Go.RowKit

/-- An arc: from a byte up to another one, and where it leads. -/
structure Arc3 where
  lo : Nat
  hi : Nat
  dest : Int
/-- A state: what it ends, its arcs. -/
structure Sta where
  acc : Nat
  arcs : List Arc3
/-- Is a byte one of an arc's? -/
def Arc3.has (a : Arc3) (b : Nat) : Bool := decide (a.lo ≤ b) && decide (b ≤ a.hi)
/-- Where the first arc leads that has a byte. -/
def firstTo : List Arc3 → Nat → Int
  | [], _ => -1
  | a :: l, b => if a.has b then a.dest else firstTo l b
theorem firstTo_skip {l : List Arc3} {b k : Nat} (h : ∀ i (hi : i < l.length), i < k → l[i].has b = false) : firstTo l b = firstTo (l.drop k) b := by
  induction k generalizing l with
  | zero => rfl
  | succ k ih =>
    cases l with
    | nil => rfl
    | cons a l =>
      have h0 := h 0 (by simp) (by omega)
      simp only [List.getElem_cons_zero] at h0
      rw [firstTo, h0, List.drop_succ_cons]
      simp only [Bool.false_eq_true, if_false]
      exact ih fun i hi hk => by
        have := h (i + 1) (by simpa using hi) (by omega)
        simpa using this
theorem firstTo_at {l : List Arc3} {b k : Nat} (hk : k < l.length) (h : ∀ i (hi : i < l.length), i < k → l[i].has b = false) (hb : l[k].has b = true) : firstTo l b = l[k].dest := by
  rw [firstTo_skip h, List.drop_eq_getElem_cons hk, firstTo, hb]
  simp
theorem firstTo_none {l : List Arc3} {b : Nat} (h : ∀ i (hi : i < l.length), i < l.length → l[i].has b = false) : firstTo l b = -1 := by
  rw [firstTo_skip h, List.drop_length]; rfl
/-- Where a machine goes from a state by a byte. -/
def nextS (m : List Sta) (s : Int) (b : Nat) : Int := if h : 0 ≤ s ∧ s.toNat < m.length then firstTo m[s.toNat].arcs b else -1
def runFrom (m : List Sta) (s : Int) (bs : List Nat) : Int := bs.foldl (nextS m) s
/-- Where it is behind a text. -/
def runS (m : List Sta) (bs : List Nat) : Int := runFrom m (if m.length = 0 then -1 else 0) bs
theorem next_nowhere (m : List Sta) (b : Nat) : nextS m (-1) b = -1 := by unfold nextS; rw [dif_neg (by omega)]
theorem run_nowhere (m : List Sta) : ∀ bs, runFrom m (-1) bs = -1
  | [] => rfl
  | b :: bs => by
    show runFrom m (nextS m (-1) b) bs = -1
    rw [next_nowhere]; exact run_nowhere m bs
theorem run_take {m : List Sta} {s : Int} {bs : List Nat} {i : Nat} (h : i < bs.length) : runFrom m s (bs.take (i + 1)) = nextS m (runFrom m s (bs.take i)) bs[i] := by
  unfold runFrom
  rw [List.take_succ_eq_append_getElem h, List.foldl_append]; rfl
/-- What a state ends; nowhere nothing. -/
def accS (m : List Sta) (s : Int) : Nat := if 0 ≤ s then ((m[s.toNat]?).map Sta.acc).getD 0 else 0
theorem accS_at {m : List Sta} {k : Nat} (h : k < m.length) : accS m k = m[k].acc := by
  unfold accS
  rw [if_pos (by omega), Int.toNat_natCast, List.getElem?_eq_getElem h]; rfl
theorem accS_none {m : List Sta} {s : Int} (h : s < 0 ∨ (m.length : Int) ≤ s) : accS m s = 0 := by
  unfold accS
  split
  · rw [List.getElem?_eq_none (by omega)]; rfl
  · rfl
/-- Does it end something behind a text? -/
def wholeS (m : List Sta) (bs : List Nat) : Bool := decide (accS m (runS m bs) ≠ 0)
/-- May an arc stand behind another one? -/
def behindB (x y : Arc3) : Bool := decide (x.hi + 1 < y.lo) || (decide (x.hi + 1 = y.lo) && decide (y.dest ≠ x.dest))
def arcOk (n : Nat) (a : Arc3) : Bool := decide (a.lo ≤ a.hi) && (decide (0 ≤ a.dest) && decide (a.dest < n))
/-- Does it stand right behind the one ahead of it? -/
def prevOk (l : List Arc3) (i : Nat) (a : Arc3) : Bool := i == 0 || match l[i - 1]? with
  | none => true
  | some x => behindB x a
def fitAt (n : Nat) (l : List Arc3) (i : Nat) (a : Arc3) : Bool := arcOk n a && prevOk l i a
/-- May a state have these arcs? -/
def fitsB (n : Nat) (l : List Arc3) : Bool := (List.range l.length).all fun i => match l[i]? with
  | none => true
  | some a => fitAt n l i a
theorem prevOk_zero (l : List Arc3) (a : Arc3) : prevOk l 0 a = true := rfl
theorem prevOk_succ {l : List Arc3} {j : Nat} (h : j < l.length) (a : Arc3) : prevOk l (j + 1) a = behindB l[j] a := by
  unfold prevOk
  rw [Nat.add_sub_cancel, List.getElem?_eq_getElem h]
  rfl
theorem fits_iff {n : Nat} {l : List Arc3} : fitsB n l = true ↔ ∀ i (h : i < l.length), fitAt n l i l[i] = true := by
  unfold fitsB
  rw [List.all_eq_true]
  constructor
  · intro h i hi
    have := h i (by simpa using hi)
    rw [List.getElem?_eq_getElem hi] at this
    exact this
  · intro h i hi
    have hi : i < l.length := by simpa using hi
    rw [List.getElem?_eq_getElem hi]
    exact h i hi
theorem fits_not {n : Nat} {l : List Arc3} {i : Nat} (hi : i < l.length) (h : fitAt n l i l[i] = false) : fitsB n l = false := by
  rw [Bool.eq_false_iff]
  intro h1
  rw [fits_iff.1 h1 i hi] at h
  cases h
/-- May a machine be? -/
def checkB (m : List Sta) : Bool := decide (m.length ≤ 4096) && m.all fun s => fitsB m.length s.arcs
/-- As arcs lie. -/
def ArcsAt (w : World) (v : Value) (l : List Arc3) : Prop := ∃ a c, v = .slice a l.length c ∧ ∀ i (h : i < l.length), ∃ b o, a = some ⟨b, o, none⟩ ∧ w.cell? ⟨b, o + i * 3, none⟩ = some (.int .u8 l[i].lo) ∧ w.cell? ⟨b, o + i * 3 + 1, none⟩ = some (.int .u8 l[i].hi) ∧ w.cell? ⟨b, o + i * 3 + 2, none⟩ = some (.int .i64 l[i].dest)
/-- As a machine lies. -/
def MachAt (w : World) (v : Value) (m : List Sta) : Prop := ∃ a c, v = .slice a m.length c ∧ ∀ i (h : i < m.length), ∃ b o av, a = some ⟨b, o, none⟩ ∧ w.cell? ⟨b, o + i * 2, none⟩ = some (.int .u64 m[i].acc) ∧ w.cell? ⟨b, o + i * 2 + 1, none⟩ = some av ∧ ArcsAt w av m[i].arcs
theorem ArcsAt.below {w w' : World} {v : Value} {l : List Arc3} (h : ArcsAt w v l) (hb : Below w.heap.size w w') : ArcsAt w' v l := by
  obtain ⟨a, c, e, h1⟩ := h
  exact ⟨a, c, e, fun i hi => by
    obtain ⟨b, o, e1, e2, e3, e4⟩ := h1 i hi
    exact ⟨b, o, e1, cell_below hb e2, cell_below hb e3, cell_below hb e4⟩⟩
theorem MachAt.below {w w' : World} {v : Value} {m : List Sta} (h : MachAt w v m) (hb : Below w.heap.size w w') : MachAt w' v m := by
  obtain ⟨a, c, e, h1⟩ := h
  exact ⟨a, c, e, fun i hi => by
    obtain ⟨b, o, av, e1, e2, e3, e4⟩ := h1 i hi
    exact ⟨b, o, av, e1, cell_below hb e2, cell_below hb e3, e4.below hb⟩⟩
theorem ArcsAt.nil (w : World) : ArcsAt w (.slice none 0 0) [] := ⟨none, 0, rfl, fun i hi => by simp at hi⟩
theorem MachAt.nil (w : World) : MachAt w (.slice none 0 0) [] := ⟨none, 0, rfl, fun i hi => by simp at hi⟩
/-- Bytes and what is ended, as a machine has them. -/
def Arc3.may (a : Arc3) : Prop := a.lo < 256 ∧ a.hi < 256 ∧ -9223372036854775808 ≤ a.dest ∧ a.dest < 9223372036854775808
def Sta.may (s : Sta) : Prop := s.acc < 18446744073709551616 ∧ ∀ a ∈ s.arcs, a.may
end Go.Proofs.Ytmhjabodhgacnaa
