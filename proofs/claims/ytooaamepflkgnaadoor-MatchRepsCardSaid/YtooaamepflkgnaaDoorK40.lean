/- Texts that a proof rests on: What repetitions match, in other words. -/
import Derived.Test.YtooaamepflkgnaaDoorK10
set_option maxRecDepth 20000
namespace Go.Proofs.YtooaamepflkgnaaDoor
open Go.RowKit

theorem row_one_fun (s : ByteArray) (p : Pat) : rowM s [p] = p.M s := by
  funext i j; exact propext (rowM_one s p i j)
theorem some_cat (s : ByteArray) (p : Pat) (i j : Int) : (Pat.mk 3 0 1 (-1) [p]).M s i j ↔ (Pat.mk 1 0 0 0 [p, Pat.mk 3 0 0 (-1) [p]]).M s i j := by
  rw [M_rep rfl, M_cat rfl]
  show (∃ k : Nat, (1 : Int) ≤ k ∧ ((-1 : Int) < 0 ∨ (k : Int) ≤ -1) ∧ Pw (rowM s [p]) k i j) ↔ rowM s [p, Pat.mk 3 0 0 (-1) [p]] i j
  rw [rowM_cons]
  simp only [rowM_one, M_rep (p := Pat.mk 3 0 0 (-1) [p]) rfl]
  show _ ↔ ∃ m, p.M s i m ∧ ∃ k : Nat, (0 : Int) ≤ k ∧ ((-1 : Int) < 0 ∨ (k : Int) ≤ -1) ∧ Pw (rowM s [p]) k m j
  rw [row_one_fun]
  constructor
  · rintro ⟨k, h1, _, h3⟩
    cases k with
    | zero => omega
    | succ k =>
      obtain ⟨m, h4, h5⟩ := h3
      exact ⟨m, h4, k, by omega, .inl (by omega), h5⟩
  · rintro ⟨m, h4, k, _, _, h5⟩
    exact ⟨k + 1, by omega, .inl (by omega), m, h4, h5⟩
theorem twice_cat (s : ByteArray) (p : Pat) (i j : Int) : (Pat.mk 3 0 2 2 [p]).M s i j ↔ (Pat.mk 1 0 0 0 [p, p]).M s i j := by
  rw [M_rep rfl, M_cat rfl]
  show (∃ k : Nat, (2 : Int) ≤ k ∧ ((2 : Int) < 0 ∨ (k : Int) ≤ 2) ∧ Pw (rowM s [p]) k i j) ↔ rowM s [p, p] i j
  rw [rowM_cons, row_one_fun]
  constructor
  · rintro ⟨k, h1, h2, h3⟩
    obtain rfl : k = 2 := by omega
    obtain ⟨m, h4, m2, h5, h6⟩ := h3
    have h7 : m2 = j := h6
    exact ⟨m, h4, h7 ▸ h5⟩
  · rintro ⟨m, h4, h5⟩
    exact ⟨2, by omega, .inr (by omega), m, h4, j, h5, rfl⟩
theorem once_may (s : ByteArray) (p : Pat) (i j : Int) : (Pat.mk 3 0 0 1 [p]).M s i j ↔ i = j ∨ p.M s i j := by
  rw [M_rep rfl]
  show (∃ k : Nat, (0 : Int) ≤ k ∧ ((1 : Int) < 0 ∨ (k : Int) ≤ 1) ∧ Pw (rowM s [p]) k i j) ↔ _
  rw [row_one_fun]
  constructor
  · rintro ⟨k, h1, h2, h3⟩
    have : k = 0 ∨ k = 1 := by omega
    rcases this with rfl | rfl
    · exact .inl h3
    · exact .inr ((Pw_one _ _ _).1 h3)
  · rintro (h | h)
    · exact ⟨0, by omega, .inr (by omega), h⟩
    · exact ⟨1, by omega, .inr (by omega), (Pw_one _ _ _).2 h⟩
theorem any_empty (s : ByteArray) (p : Pat) (i : Int) : (Pat.mk 3 0 0 (-1) [p]).M s i i := by
  rw [M_rep rfl]
  exact ⟨0, Int.le_refl _, .inl (show (-1 : Int) < 0 by decide), rfl⟩
end Go.Proofs.YtooaamepflkgnaaDoor
