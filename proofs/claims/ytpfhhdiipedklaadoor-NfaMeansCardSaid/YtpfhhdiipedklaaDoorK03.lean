/- Texts that a proof rests on: The least byte from a place on: plain facts, no program. | The rows of consecutive bytes of a set: plain facts, no program. -/
import Derived.Test.YtpfhhdiipedklaaDoorK01
import Derived.Lib.TrailingZeros
namespace Go.Proofs.YtpfhhdiipedklaaDoor

/-- The least byte of s from b on; 256: none. -/
def fst (s : BitVec 256) (b : Nat) : Nat := if b < 256 then (if s.getLsbD b then b else fst s (b + 1)) else 256
  termination_by 256 - b
theorem fst_at {s : BitVec 256} {b : Nat} (hb : b < 256) (h : s.getLsbD b = true) : fst s b = b := by rw [fst, if_pos hb, if_pos h]
theorem fst_next {s : BitVec 256} {b : Nat} (h : s.getLsbD b = false) : fst s b = fst s (b + 1) := by
  rw [fst]
  by_cases hb : b < 256
  · rw [if_pos hb, h]; rfl
  · rw [if_neg hb]
    rw [fst, if_neg (by omega)]
theorem fst_out {s : BitVec 256} {b : Nat} (hb : 256 ≤ b) : fst s b = 256 := by rw [fst, if_neg (by omega)]
theorem fst_skip (s : BitVec 256) : ∀ (n b : Nat), (∀ c, b ≤ c → c < b + n → s.getLsbD c = false) → fst s b = fst s (b + n)
  | 0, b, _ => rfl
  | n + 1, b, h => by
    rw [fst_next (h b (by omega) (by omega)), fst_skip s n (b + 1) (fun c h1 h2 => h c (by omega) (by omega))]
    congr 1; omega
theorem fst_eq {s : BitVec 256} {b r : Nat} (h1 : b ≤ r) (h2 : r < 256) (h3 : s.getLsbD r = true) (h4 : ∀ c, b ≤ c → c < r → s.getLsbD c = false) : fst s b = r := by
  obtain ⟨n, rfl⟩ : ∃ n, r = b + n := ⟨r - b, by omega⟩
  rw [fst_skip s n b h4, fst_at h2 h3]
theorem fst_none {s : BitVec 256} {b : Nat} (h : ∀ c, b ≤ c → c < 256 → s.getLsbD c = false) : fst s b = 256 := by
  by_cases hb : b < 256
  · obtain ⟨n, e⟩ : ∃ n, 256 = b + n := ⟨256 - b, by omega⟩
    rw [fst_skip s n b (fun c h1 h2 => h c h1 (by omega)), ← e]
    exact fst_out (by omega)
  · exact fst_out (by omega)
theorem fst_cases (s : BitVec 256) (b : Nat) : (b ≤ fst s b ∧ fst s b < 256 ∧ s.getLsbD (fst s b) = true ∧ ∀ c, b ≤ c → c < fst s b → s.getLsbD c = false) ∨ (fst s b = 256 ∧ ∀ c, b ≤ c → c < 256 → s.getLsbD c = false) := by
  by_cases h : ∃ r, b ≤ r ∧ r < 256 ∧ s.getLsbD r = true
  · obtain ⟨r, h1, h2, h3⟩ := h
    -- the least one
    have : ∀ n, ∀ r, r ≤ n → b ≤ r → r < 256 → s.getLsbD r = true → ∃ q, b ≤ q ∧ q < 256 ∧ s.getLsbD q = true ∧ ∀ c, b ≤ c → c < q → s.getLsbD c = false := by
      intro n
      induction n with
      | zero => intro r hr a1 a2 a3; exact ⟨r, a1, a2, a3, fun c _ hc => by omega⟩
      | succ n ih =>
        intro r hr a1 a2 a3
        by_cases g : ∃ c, b ≤ c ∧ c < r ∧ s.getLsbD c = true
        · obtain ⟨c, c1, c2, c3⟩ := g
          exact ih c (by omega) c1 (by omega) c3
        · refine ⟨r, a1, a2, a3, fun c hc1 hc2 => ?_⟩
          cases hq : s.getLsbD c with
          | false => rfl
          | true => exact absurd ⟨c, hc1, hc2, hq⟩ g
    obtain ⟨q, q1, q2, q3, q4⟩ := this r r (Nat.le_refl _) h1 h2 h3
    have e := fst_eq q1 q2 q3 q4
    rw [e]
    exact .inl ⟨q1, q2, q3, q4⟩
  · have g : ∀ c, b ≤ c → c < 256 → s.getLsbD c = false := fun c c1 c2 => by
      cases hq : s.getLsbD c with
      | false => rfl
      | true => exact absurd ⟨c, c1, c2, hq⟩ h
    exact .inr ⟨fst_none g, g⟩
theorem fst_le (s : BitVec 256) (b : Nat) : fst s b ≤ 256 := by
  rcases fst_cases s b with h | h <;> omega

/-- What is left of a word from a byte on. -/
theorem shifted (s : BitVec 256) (k j : Nat) : (wd s (k / 64) / 2 ^ (k % 64)).testBit j = (decide (k % 64 + j < 64) && s.getLsbD (k + j)) := by
  rw [Nat.testBit_div_two_pow, wd_testBit]
  have : 64 * (k / 64) + (j + k % 64) = k + j := by omega
  rw [this, Nat.add_comm j]
theorem fst_zero (s : BitVec 256) (k : Nat) (h : wd s (k / 64) / 2 ^ (k % 64) = 0) : fst s k = fst s (k - k % 64 + 64) := by
  have := fst_skip s (64 - k % 64) k (fun c h1 h2 => by
    have := shifted s k (c - k)
    rw [h, Nat.zero_testBit] at this
    have l : k % 64 + (c - k) < 64 := by omega
    rw [show k + (c - k) = c from by omega] at this
    simpa [l] using this.symm)
  rw [this]; congr 1; omega
theorem fst_ctz (s : BitVec 256) (k : Nat) (hk : k < 256) (h : wd s (k / 64) / 2 ^ (k % 64) ≠ 0) :
    fst s k = k + Lib.ctz 64 (wd s (k / 64) / 2 ^ (k % 64)) ∧ k + Lib.ctz 64 (wd s (k / 64) / 2 ^ (k % 64)) < 256 := by
  have hx : wd s (k / 64) / 2 ^ (k % 64) < 2 ^ 64 := Nat.lt_of_le_of_lt (Nat.div_le_self _ _) (wd_lt s _)
  obtain ⟨m, hm, hc⟩ := Lib.ctzFrom_spec 64 _ (Nat.pos_of_ne_zero h) hx
  have e : Lib.ctz 64 (wd s (k / 64) / 2 ^ (k % 64)) = Lib.ctzFrom 64 (wd s (k / 64) / 2 ^ (k % 64)) := by simp [Lib.ctz, h]
  rw [e]
  have tb (j : Nat) : (wd s (k / 64) / 2 ^ (k % 64)).testBit j = (decide (Lib.ctzFrom 64 (wd s (k / 64) / 2 ^ (k % 64)) ≤ j) && (2 * m + 1).testBit (j - Lib.ctzFrom 64 (wd s (k / 64) / 2 ^ (k % 64)))) := by
    have := Nat.testBit_mul_two_pow (x := 2 * m + 1) (i := Lib.ctzFrom 64 (wd s (k / 64) / 2 ^ (k % 64))) (j := j)
    rw [Nat.mul_comm, ← hm] at this
    exact this
  generalize Lib.ctzFrom 64 (wd s (k / 64) / 2 ^ (k % 64)) = c at *
  have at_c := tb c
  rw [shifted] at at_c
  simp [Nat.testBit_zero] at at_c
  have hlt : k + c < 256 := by omega
  refine ⟨fst_eq (by omega) hlt at_c.2 (fun d d1 d2 => ?_), hlt⟩
  have := tb (d - k)
  rw [shifted, show k + (d - k) = d from by omega] at this
  have l1 : k % 64 + (d - k) < 64 := by omega
  have l2 : ¬ c ≤ d - k := by omega
  simpa [l1, l2] using this
end Go.Proofs.YtpfhhdiipedklaaDoor
namespace Go.Proofs.YtpfhhdiipedklaaDoor

theorem fst_not {s : BitVec 256} {p : Nat} (h : fst s p < 256) : p ≤ fst s p ∧ fst s p < fst (~~~s) (fst s p) ∧ fst (~~~s) (fst s p) ≤ 256 := by
  rcases fst_cases s p with ⟨h1, h2, h3, h4⟩ | ⟨h1, h2⟩
  · refine ⟨h1, ?_, fst_le _ _⟩
    have hn : (~~~s).getLsbD (fst s p) = false := by rw [BitVec.getLsbD_not, h3]; simp
    rw [fst_next hn]
    rcases fst_cases (~~~s) (fst s p + 1) with ⟨g1, _⟩ | ⟨g1, _⟩ <;> omega
  · omega
/-- The rows from p on: each by its first and its last byte. -/
def runs (s : BitVec 256) (p : Nat) : List (Nat × Nat) :=
  if fst s p < 256 then (fst s p, fst (~~~s) (fst s p) - 1) :: runs s (fst (~~~s) (fst s p)) else []
  termination_by 256 - p
  decreasing_by
    rename_i h
    have := fst_not h
    omega
theorem runs_end {s : BitVec 256} {p : Nat} (h : 256 ≤ fst s p) : runs s p = [] := by rw [runs, if_neg (by omega)]
theorem runs_more {s : BitVec 256} {p : Nat} (h : fst s p < 256) : runs s p = (fst s p, fst (~~~s) (fst s p) - 1) :: runs s (fst (~~~s) (fst s p)) := by rw [runs, if_pos h]
/-- One byte more, byte by byte. -/
def rstep (s : BitVec 256) (l : List (Nat × Nat)) (b : Nat) : List (Nat × Nat) :=
  if s.getLsbD b then (match l.getLast? with
    | some (lo, hi) => if hi + 1 = b then l.dropLast ++ [(lo, b)] else l ++ [(b, b)]
    | none => l ++ [(b, b)]) else l
def rTo (s : BitVec 256) : Nat → List (Nat × Nat)
  | 0 => []
  | k + 1 => rstep s (rTo s k) k
theorem rTo_skip (s : BitVec 256) : ∀ (n p : Nat), (∀ c, p ≤ c → c < p + n → s.getLsbD c = false) → rTo s (p + n) = rTo s p
  | 0, _, _ => rfl
  | n + 1, p, h => by
    rw [← Nat.add_assoc, rTo, rTo_skip s n p (fun c h1 h2 => h c h1 (by omega)), rstep, h (p + n) (by omega) (by omega)]
    rfl
theorem rTo_run (s : BitVec 256) (l : List (Nat × Nat)) (lo : Nat) (h0 : rTo s lo = l) (hl : ∀ q ∈ l.getLast?, q.2 + 1 ≠ lo) : ∀ n, (∀ c, lo ≤ c → c < lo + n + 1 → s.getLsbD c = true) → rTo s (lo + n + 1) = l ++ [(lo, lo + n)]
  | 0, h => by
    rw [Nat.add_zero, rTo, h0, rstep, h lo (by omega) (by omega), if_pos rfl]
    split
    · rename_i a b e
      rw [if_neg (hl (a, b) (by rw [e]; rfl))]; rfl
    · rfl
  | n + 1, h => by
    have ih := rTo_run s l lo h0 hl n (fun c h1 h2 => h c h1 (by omega))
    rw [rTo, ← Nat.add_assoc, ih, rstep, h (lo + n + 1) (by omega) (by omega), if_pos rfl]
    simp
theorem rTo_runs (s : BitVec 256) : ∀ (m p : Nat) (l : List (Nat × Nat)), 256 - p ≤ m → p ≤ 256 → rTo s p = l → (∀ q ∈ l.getLast?, q.2 + 1 ≤ p) → (s.getLsbD p = true → ∀ q ∈ l.getLast?, q.2 + 1 ≠ p) → rTo s 256 = l ++ runs s p := by
  intro m
  induction m with
  | zero =>
    intro p l hm hp h0 _ _
    obtain rfl : p = 256 := by omega
    rw [h0, runs_end (by rw [fst_out (Nat.le_refl _)]; omega)]
    simp
  | succ m ih =>
    intro p l hm hp h0 h1 h2
    rcases fst_cases s p with ⟨g1, g2, g3, g4⟩ | ⟨g1, g2⟩
    · obtain ⟨e1, e2, e3⟩ := fst_not g2
      rw [runs_more g2]
      have hlo : rTo s (fst s p) = l := by
        have := rTo_skip s (fst s p - p) p (fun c c1 c2 => g4 c c1 (by omega))
        rw [show p + (fst s p - p) = fst s p from by omega] at this
        rw [this, h0]
      have hne : ∀ q ∈ l.getLast?, q.2 + 1 ≠ fst s p := fun q hq => by
        by_cases e : fst s p = p
        · rw [e]; exact h2 (by rw [← e]; exact g3) q hq
        · have := h1 q hq; omega
      have hall : ∀ c, fst s p ≤ c → c < fst (~~~s) (fst s p) → s.getLsbD c = true := fun c c1 c2 => by
        rcases fst_cases (~~~s) (fst s p) with ⟨_, _, _, k4⟩ | ⟨k1, k2⟩
        · have := k4 c c1 c2
          rw [BitVec.getLsbD_not] at this
          have l : c < 256 := by omega
          simpa [l] using this
        · have := k2 c c1 (by omega)
          rw [BitVec.getLsbD_not] at this
          have l : c < 256 := by omega
          simpa [l] using this
      have hrun := rTo_run s l (fst s p) hlo hne (fst (~~~s) (fst s p) - fst s p - 1) (fun c c1 c2 => hall c c1 (by omega))
      rw [show fst s p + (fst (~~~s) (fst s p) - fst s p - 1) + 1 = fst (~~~s) (fst s p) from by omega, show fst s p + (fst (~~~s) (fst s p) - fst s p - 1) = fst (~~~s) (fst s p) - 1 from by omega] at hrun
      have := ih (fst (~~~s) (fst s p)) (l ++ [(fst s p, fst (~~~s) (fst s p) - 1)]) (by omega) e3 hrun (by simp; omega) (by
        intro hb
        exfalso
        rcases fst_cases (~~~s) (fst s p) with ⟨_, k2, k3, _⟩ | ⟨k1, _⟩
        · rw [BitVec.getLsbD_not, hb] at k3; simp at k3
        · rw [k1] at hb
          have := BitVec.getLsbD_of_ge s 256 (Nat.le_refl _)
          rw [this] at hb; cases hb)
      rw [this]
      simp
    · have := rTo_skip s (256 - p) p (fun c c1 c2 => g2 c c1 (by omega))
      rw [show p + (256 - p) = 256 from by omega] at this
      rw [this, h0, runs_end (by omega)]
      simp
/-- Byte by byte they are the rows. -/
theorem rTo_all (s : BitVec 256) : rTo s 256 = runs s 0 := by
  have := rTo_runs s 256 0 [] (by omega) (by omega) rfl (by simp) (by simp)
  simpa using this
theorem runs_lt (s : BitVec 256) : ∀ (m p : Nat), 256 - p ≤ m → ∀ q ∈ runs s p, q.1 < 256 ∧ q.2 < 256 := by
  intro m
  induction m with
  | zero =>
    intro p hm q hq
    rw [runs_end (by rw [fst_out (by omega)]; omega)] at hq
    simp at hq
  | succ m ih =>
    intro p hm q hq
    by_cases h : fst s p < 256
    · rw [runs_more h] at hq
      have := fst_not h
      rcases List.mem_cons.1 hq with rfl | hq
      · exact ⟨h, by dsimp only; omega⟩
      · exact ih _ (by omega) q hq
    · rw [runs_end (by omega)] at hq
      simp at hq
theorem runs_length (s : BitVec 256) : ∀ (m p : Nat), 256 - p ≤ m → (runs s p).length ≤ m := by
  intro m
  induction m with
  | zero =>
    intro p hm
    rw [runs_end (by rw [fst_out (by omega)]; omega)]
    simp
  | succ m ih =>
    intro p hm
    by_cases h : fst s p < 256
    · rw [runs_more h]
      have := fst_not h
      have := ih (fst (~~~s) (fst s p)) (by omega)
      simp; omega
    · rw [runs_end (by omega)]
      simp
theorem rTo_length (s : BitVec 256) (k : Nat) : (rTo s k).length ≤ k := by
  induction k with
  | zero => simp [rTo]
  | succ k ih =>
    rw [rTo, rstep]
    split
    · split
      · split <;> simp <;> omega
      · simp; omega
    · omega
theorem rTo_lt (s : BitVec 256) (k : Nat) : ∀ q ∈ rTo s k, q.1 < k ∧ q.2 < k := by
  induction k with
  | zero => simp [rTo]
  | succ k ih =>
    intro q hq
    rw [rTo, rstep] at hq
    split at hq
    · split at hq
      · rename_i lo hi e
        split at hq
        · rcases List.mem_append.1 hq with h | h
          · have := ih q (List.dropLast_subset _ h); omega
          · simp at h; subst h
            have := ih (lo, hi) (List.mem_of_getLast? e)
            simp at this ⊢; omega
        · rcases List.mem_append.1 hq with h | h
          · have := ih q h; omega
          · simp at h; subst h; simp
      · rcases List.mem_append.1 hq with h | h
        · have := ih q h; omega
        · simp at h; subst h; simp
    · have := ih q hq; omega
end Go.Proofs.YtpfhhdiipedklaaDoor
