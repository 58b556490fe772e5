/- The least byte from a place on: plain facts, no program. -/
import Derived.Test.YtocllbdfdmpopaaDoorA0
import Derived.Lib.TrailingZeros
namespace Go.Proofs.YtocllbdfdmpopaaDoor

/-- The least byte of s from b on; 256: none. -/
def fst (s : BitVec 256) (b : Nat) : Nat := if b < 256 then (if s.getLsbD b then b else fst s (b + 1)) else 256
  termination_by 256 - b
theorem fst_at {s : BitVec 256} {b : Nat} (hb : b < 256) (h : s.getLsbD b = true) : fst s b = b := by rw [fst, if_pos hb, if_pos h]
theorem fst_next {s : BitVec 256} {b : Nat} (h : s.getLsbD b = false) : fst s b = fst s (b + 1) := by
  rw [fst]
  by_cases hb : b < 256
  · rw [if_pos hb, h]; rfl
  · rw [if_neg hb]
    rw [fst, if_neg (by omega)]
theorem fst_out {s : BitVec 256} {b : Nat} (hb : 256 ≤ b) : fst s b = 256 := by rw [fst, if_neg (by omega)]
theorem fst_skip (s : BitVec 256) : ∀ (n b : Nat), (∀ c, b ≤ c → c < b + n → s.getLsbD c = false) → fst s b = fst s (b + n)
  | 0, b, _ => rfl
  | n + 1, b, h => by
    rw [fst_next (h b (by omega) (by omega)), fst_skip s n (b + 1) (fun c h1 h2 => h c (by omega) (by omega))]
    congr 1; omega
theorem fst_eq {s : BitVec 256} {b r : Nat} (h1 : b ≤ r) (h2 : r < 256) (h3 : s.getLsbD r = true) (h4 : ∀ c, b ≤ c → c < r → s.getLsbD c = false) : fst s b = r := by
  obtain ⟨n, rfl⟩ : ∃ n, r = b + n := ⟨r - b, by omega⟩
  rw [fst_skip s n b h4, fst_at h2 h3]
theorem fst_none {s : BitVec 256} {b : Nat} (h : ∀ c, b ≤ c → c < 256 → s.getLsbD c = false) : fst s b = 256 := by
  by_cases hb : b < 256
  · obtain ⟨n, e⟩ : ∃ n, 256 = b + n := ⟨256 - b, by omega⟩
    rw [fst_skip s n b (fun c h1 h2 => h c h1 (by omega)), ← e]
    exact fst_out (by omega)
  · exact fst_out (by omega)
theorem fst_cases (s : BitVec 256) (b : Nat) : (b ≤ fst s b ∧ fst s b < 256 ∧ s.getLsbD (fst s b) = true ∧ ∀ c, b ≤ c → c < fst s b → s.getLsbD c = false) ∨ (fst s b = 256 ∧ ∀ c, b ≤ c → c < 256 → s.getLsbD c = false) := by
  by_cases h : ∃ r, b ≤ r ∧ r < 256 ∧ s.getLsbD r = true
  · obtain ⟨r, h1, h2, h3⟩ := h
    -- the least one
    have : ∀ n, ∀ r, r ≤ n → b ≤ r → r < 256 → s.getLsbD r = true → ∃ q, b ≤ q ∧ q < 256 ∧ s.getLsbD q = true ∧ ∀ c, b ≤ c → c < q → s.getLsbD c = false := by
      intro n
      induction n with
      | zero => intro r hr a1 a2 a3; exact ⟨r, a1, a2, a3, fun c _ hc => by omega⟩
      | succ n ih =>
        intro r hr a1 a2 a3
        by_cases g : ∃ c, b ≤ c ∧ c < r ∧ s.getLsbD c = true
        · obtain ⟨c, c1, c2, c3⟩ := g
          exact ih c (by omega) c1 (by omega) c3
        · refine ⟨r, a1, a2, a3, fun c hc1 hc2 => ?_⟩
          cases hq : s.getLsbD c with
          | false => rfl
          | true => exact absurd ⟨c, hc1, hc2, hq⟩ g
    obtain ⟨q, q1, q2, q3, q4⟩ := this r r (Nat.le_refl _) h1 h2 h3
    have e := fst_eq q1 q2 q3 q4
    rw [e]
    exact .inl ⟨q1, q2, q3, q4⟩
  · have g : ∀ c, b ≤ c → c < 256 → s.getLsbD c = false := fun c c1 c2 => by
      cases hq : s.getLsbD c with
      | false => rfl
      | true => exact absurd ⟨c, c1, c2, hq⟩ h
    exact .inr ⟨fst_none g, g⟩
theorem fst_le (s : BitVec 256) (b : Nat) : fst s b ≤ 256 := by
  rcases fst_cases s b with h | h <;> omega

/-- What is left of a word from a byte on. -/
theorem shifted (s : BitVec 256) (k j : Nat) : (wd s (k / 64) / 2 ^ (k % 64)).testBit j = (decide (k % 64 + j < 64) && s.getLsbD (k + j)) := by
  rw [Nat.testBit_div_two_pow, wd_testBit]
  have : 64 * (k / 64) + (j + k % 64) = k + j := by omega
  rw [this, Nat.add_comm j]
theorem fst_zero (s : BitVec 256) (k : Nat) (h : wd s (k / 64) / 2 ^ (k % 64) = 0) : fst s k = fst s (k - k % 64 + 64) := by
  have := fst_skip s (64 - k % 64) k (fun c h1 h2 => by
    have := shifted s k (c - k)
    rw [h, Nat.zero_testBit] at this
    have l : k % 64 + (c - k) < 64 := by omega
    rw [show k + (c - k) = c from by omega] at this
    simpa [l] using this.symm)
  rw [this]; congr 1; omega
theorem fst_ctz (s : BitVec 256) (k : Nat) (hk : k < 256) (h : wd s (k / 64) / 2 ^ (k % 64) ≠ 0) :
    fst s k = k + Lib.ctz 64 (wd s (k / 64) / 2 ^ (k % 64)) ∧ k + Lib.ctz 64 (wd s (k / 64) / 2 ^ (k % 64)) < 256 := by
  have hx : wd s (k / 64) / 2 ^ (k % 64) < 2 ^ 64 := Nat.lt_of_le_of_lt (Nat.div_le_self _ _) (wd_lt s _)
  obtain ⟨m, hm, hc⟩ := Lib.ctzFrom_spec 64 _ (Nat.pos_of_ne_zero h) hx
  have e : Lib.ctz 64 (wd s (k / 64) / 2 ^ (k % 64)) = Lib.ctzFrom 64 (wd s (k / 64) / 2 ^ (k % 64)) := by simp [Lib.ctz, h]
  rw [e]
  have tb (j : Nat) : (wd s (k / 64) / 2 ^ (k % 64)).testBit j = (decide (Lib.ctzFrom 64 (wd s (k / 64) / 2 ^ (k % 64)) ≤ j) && (2 * m + 1).testBit (j - Lib.ctzFrom 64 (wd s (k / 64) / 2 ^ (k % 64)))) := by
    have := Nat.testBit_mul_two_pow (x := 2 * m + 1) (i := Lib.ctzFrom 64 (wd s (k / 64) / 2 ^ (k % 64))) (j := j)
    rw [Nat.mul_comm, ← hm] at this
    exact this
  generalize Lib.ctzFrom 64 (wd s (k / 64) / 2 ^ (k % 64)) = c at *
  have at_c := tb c
  rw [shifted] at at_c
  simp [Nat.testBit_zero] at at_c
  have hlt : k + c < 256 := by omega
  refine ⟨fst_eq (by omega) hlt at_c.2 (fun d d1 d2 => ?_), hlt⟩
  have := tb (d - k)
  rw [shifted, show k + (d - k) = d from by omega] at this
  have l1 : k % 64 + (d - k) < 64 := by omega
  have l2 : ¬ c ≤ d - k := by omega
  simpa [l1, l2] using this
end Go.Proofs.YtocllbdfdmpopaaDoor
