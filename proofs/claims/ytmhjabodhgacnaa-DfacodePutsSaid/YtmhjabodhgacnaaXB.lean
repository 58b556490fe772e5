/- Where each byte leads, as arcs: the longest runs of bytes that lead to the same. -/
import Derived.Test.YtmhjabodhgacnaaXA
set_option maxRecDepth 100000
namespace Go.Proofs.Ytmhjabodhgacnaa
open Go.RowKit

/-- One byte more: the arc before it is lengthened, or a new one is begun. -/
def arcPut (l : List Arc3) (b : Nat) (t : Int) : List Arc3 :=
  if t < 0 then l
  else match l.getLast? with
    | some x => if x.hi + 1 = b ∧ x.dest = t then l.dropLast ++ [⟨x.lo, b, t⟩] else l ++ [⟨b, b, t⟩]
    | none => l ++ [⟨b, b, t⟩]
/-- The arcs of the first bytes. -/
def arcsUp (f : Nat → Int) : Nat → List Arc3
  | 0 => []
  | b + 1 => arcPut (arcsUp f b) b (f b)
/-- The arcs of where each byte leads. -/
def arcsS (f : Nat → Int) : List Arc3 := arcsUp f 256
/-- The arcs of the runs that are closed: up to a byte at which a run begins. -/
theorem arcsUp_run (f : Nat → Int) (lo : Nat) : ∀ k, (∀ i, lo ≤ i → i < lo + k → f i = f lo) → (∀ x, (arcsUp f lo).getLast? = some x → ¬ (x.hi + 1 = lo ∧ x.dest = f lo)) → 0 < k →
    arcsUp f (lo + k) = if f lo < 0 then arcsUp f lo else arcsUp f lo ++ [⟨lo, lo + k - 1, f lo⟩] := by
  intro k
  induction k with
  | zero => intro _ _ h; omega
  | succ k ih =>
    intro hf hl _
    show arcPut (arcsUp f (lo + k)) (lo + k) (f (lo + k)) = _
    rw [hf (lo + k) (by omega) (by omega)]
    by_cases hk : k = 0
    · subst hk
      simp only [Nat.add_zero, Nat.zero_add, Nat.add_sub_cancel]
      unfold arcPut
      by_cases hneg : f lo < 0
      · simp [hneg]
      · simp only [hneg, if_false]
        cases h : (arcsUp f lo).getLast? with
        | none => rfl
        | some x =>
          have := hl x h
          simp only [this, if_false]
    · rw [ih (fun i h1 h2 => hf i h1 (by omega)) hl (by omega)]
      unfold arcPut
      by_cases hneg : f lo < 0
      · simp [hneg]
      · simp only [hneg, if_false, List.getLast?_append, List.getLast?_singleton, Option.some_or]
        rw [if_pos ⟨by omega, trivial⟩]
        simp
/-- The arcs rise, and reach no further than the bytes that were looked at. -/
theorem arcsUp_last (f : Nat → Int) (b : Nat) : ∀ x ∈ arcsUp f b, x.lo ≤ x.hi ∧ x.hi < b ∧ 0 ≤ x.dest := by
  induction b with
  | zero => intro x hx; cases hx
  | succ b ih =>
    intro x hx
    show x.lo ≤ x.hi ∧ x.hi < b + 1 ∧ 0 ≤ x.dest
    have hx : x ∈ arcPut (arcsUp f b) b (f b) := hx
    unfold arcPut at hx
    split at hx
    · have := ih x hx; omega
    · cases h : (arcsUp f b).getLast? with
      | none =>
        simp only [h] at hx
        rcases List.mem_append.1 hx with hx | hx
        · have := ih x hx; omega
        · rw [List.mem_singleton] at hx; subst hx; simp; omega
      | some y =>
        simp only [h] at hx
        have hy := ih y (List.mem_of_getLast? h)
        split at hx
        · rcases List.mem_append.1 hx with hx | hx
          · have := ih x (List.dropLast_subset _ hx); omega
          · rw [List.mem_singleton] at hx; subst hx; simp; omega
        · rcases List.mem_append.1 hx with hx | hx
          · have := ih x hx; omega
          · rw [List.mem_singleton] at hx; subst hx; simp; omega
theorem arcsUp_len (f : Nat → Int) (b : Nat) : (arcsUp f b).length ≤ b := by
  induction b with
  | zero => exact Nat.le_refl 0
  | succ b ih =>
    show (arcPut (arcsUp f b) b (f b)).length ≤ b + 1
    unfold arcPut
    split
    · omega
    · cases h : (arcsUp f b).getLast? with
      | none => simp; omega
      | some y =>
        simp only
        split <;> simp <;> omega
end Go.Proofs.Ytmhjabodhgacnaa
