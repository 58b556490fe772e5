/- Mathematics: the runs of bytes that go to the same place; those that go somewhere are the arcs. -/
import Derived.Test.YtiikmpgadmmjeaaX7
set_option maxRecDepth 100000
namespace Go.Proofs.Ytiikmpgadmmjeaa
open Go.RowKit

/-- Those that go somewhere. -/
def upA (P : List Arc3) : List Arc3 := P.filter fun a => decide (0 ≤ a.dest)
theorem upA_snoc (P : List Arc3) (a : Arc3) : upA (P ++ [a]) = upA P ++ (if 0 ≤ a.dest then [a] else []) := by
  unfold upA
  rw [List.filter_append]
  by_cases h : 0 ≤ a.dest
  · rw [if_pos h]; simp [h]
  · rw [if_neg h]; simp [h]
/-- The runs so far (P); one has begun at lo, and goes on at b. -/
structure Runs (f : Nat → Int) (P : List Arc3) (lo b : Nat) : Prop where
  le : lo ≤ b
  fin : b = 256 → lo = 256
  same : ∀ x, lo ≤ x → x ≤ b → f x = f lo
  done : arcsUp f b = upA P ++ (if lo < b ∧ 0 ≤ f lo then [⟨lo, b - 1, f lo⟩] else [])
  last : ∀ x, (upA P).getLast? = some x → x.hi < lo ∧ (lo < 256 → x.hi + 1 = lo → x.dest ≠ f lo)
  len : P.length ≤ lo
theorem Runs.start (f : Nat → Int) : Runs f [] 0 0 := ⟨Nat.le_refl _, fun h => (by omega), fun x _ h => (by rw [Nat.le_zero.1 h]), rfl, fun x h => (by cases h), Nat.le_refl _⟩
theorem Runs.put {f : Nat → Int} {P : List Arc3} {lo b : Nat} (h : Runs f P lo b) (hb : b < 256) : arcsUp f (b + 1) = upA P ++ (if 0 ≤ f lo then [⟨lo, b, f lo⟩] else []) := by
  have hf := h.same b h.le (Nat.le_refl _)
  have e : arcsUp f (b + 1) = arcPut (arcsUp f b) b (f b) := rfl
  rw [e, hf]
  by_cases h0 : 0 ≤ f lo
  · rw [if_pos h0]
    have hd := h.done
    by_cases hl : lo < b
    · rw [if_pos ⟨hl, h0⟩] at hd
      rw [hd, arcPut_same (t := f lo) (x := ⟨lo, b - 1, f lo⟩) (by omega) ⟨by show b - 1 + 1 = b; omega, rfl⟩]
    · have hlb : lo = b := by have := h.le; omega
      rw [if_neg (fun hh => hl hh.1), List.append_nil] at hd
      rw [hd]
      rcases arc_cases (upA P) with h2 | ⟨l', x, h2⟩
      · rw [h2, arcPut_nil (by omega)]; subst hlb; rfl
      · have h3 := (h.last x (by rw [h2]; simp)).2 (by omega)
        rw [h2, arcPut_new (by omega) (fun hx => h3 (by omega) hx.2)]
        subst hlb; rfl
  · rw [if_neg h0, arcPut_neg (by omega), h.done, if_neg (fun hh => h0 hh.2)]
theorem Runs.cont {f : Nat → Int} {P : List Arc3} {lo b : Nat} (h : Runs f P lo b) (hb : b < 255) (he : f (b + 1) = f lo) : Runs f P lo (b + 1) := by
  refine ⟨by have := h.le; omega, fun hh => by omega, fun x h1 h2 => ?_, ?_, h.last, h.len⟩
  · rcases Nat.lt_or_ge b x with h3 | h3
    · have : x = b + 1 := by omega
      rw [this, he]
    · exact h.same x h1 h3
  · rw [h.put (by omega)]
    have := h.le
    by_cases h0 : 0 ≤ f lo
    · rw [if_pos h0, if_pos ⟨by omega, h0⟩]; rfl
    · rw [if_neg h0, if_neg (fun hh => h0 hh.2)]
theorem Runs.emit {f : Nat → Int} {P : List Arc3} {lo b : Nat} (h : Runs f P lo b) (hb : b < 256) (he : b = 255 ∨ f (b + 1) ≠ f lo) : Runs f (P ++ [⟨lo, b, f lo⟩]) (b + 1) (b + 1) := by
  have hle := h.le
  refine ⟨Nat.le_refl _, fun hh => hh, fun x h1 h2 => by rw [show x = b + 1 by omega], ?_, fun x hx => ?_, ?_⟩
  · have hno : ¬ (b + 1 < b + 1 ∧ 0 ≤ f (b + 1)) := by omega
    rw [h.put hb, upA_snoc, if_neg hno, List.append_nil]
  · rw [upA_snoc] at hx
    by_cases h0 : 0 ≤ f lo
    · rw [if_pos h0, List.getLast?_append, List.getLast?_singleton, Option.some_or] at hx
      cases hx
      exact ⟨Nat.lt_succ_self _, fun h1 _ h3 => by
        rcases he with he | he
        · omega
        · exact he h3.symm⟩
    · rw [if_neg h0, List.append_nil] at hx
      have := (h.last x hx).1
      exact ⟨by omega, fun _ h2 => by omega⟩
  · have := h.len
    rw [List.length_append, List.length_singleton]; omega
theorem Runs.all {f : Nat → Int} {P : List Arc3} {lo : Nat} (h : Runs f P lo 256) : upA P = arcsS f := by
  have hd := h.done
  rw [if_neg (fun hh => by have := h.fin rfl; omega), List.append_nil] at hd
  exact hd.symm
end Go.Proofs.Ytiikmpgadmmjeaa
