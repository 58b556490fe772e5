/- The rows of consecutive bytes of a set: plain facts, no program. -/
import Derived.Test.YtocllbdfdmpopaaDoorF
namespace Go.Proofs.YtocllbdfdmpopaaDoor

theorem fst_not {s : BitVec 256} {p : Nat} (h : fst s p < 256) : p ≤ fst s p ∧ fst s p < fst (~~~s) (fst s p) ∧ fst (~~~s) (fst s p) ≤ 256 := by
  rcases fst_cases s p with ⟨h1, h2, h3, h4⟩ | ⟨h1, h2⟩
  · refine ⟨h1, ?_, fst_le _ _⟩
    have hn : (~~~s).getLsbD (fst s p) = false := by rw [BitVec.getLsbD_not, h3]; simp
    rw [fst_next hn]
    rcases fst_cases (~~~s) (fst s p + 1) with ⟨g1, _⟩ | ⟨g1, _⟩ <;> omega
  · omega
/-- The rows from p on: each by its first and its last byte. -/
def runs (s : BitVec 256) (p : Nat) : List (Nat × Nat) :=
  if fst s p < 256 then (fst s p, fst (~~~s) (fst s p) - 1) :: runs s (fst (~~~s) (fst s p)) else []
  termination_by 256 - p
  decreasing_by
    rename_i h
    have := fst_not h
    omega
theorem runs_end {s : BitVec 256} {p : Nat} (h : 256 ≤ fst s p) : runs s p = [] := by rw [runs, if_neg (by omega)]
theorem runs_more {s : BitVec 256} {p : Nat} (h : fst s p < 256) : runs s p = (fst s p, fst (~~~s) (fst s p) - 1) :: runs s (fst (~~~s) (fst s p)) := by rw [runs, if_pos h]
/-- One byte more, byte by byte. -/
def rstep (s : BitVec 256) (l : List (Nat × Nat)) (b : Nat) : List (Nat × Nat) :=
  if s.getLsbD b then (match l.getLast? with
    | some (lo, hi) => if hi + 1 = b then l.dropLast ++ [(lo, b)] else l ++ [(b, b)]
    | none => l ++ [(b, b)]) else l
def rTo (s : BitVec 256) : Nat → List (Nat × Nat)
  | 0 => []
  | k + 1 => rstep s (rTo s k) k
theorem rTo_skip (s : BitVec 256) : ∀ (n p : Nat), (∀ c, p ≤ c → c < p + n → s.getLsbD c = false) → rTo s (p + n) = rTo s p
  | 0, _, _ => rfl
  | n + 1, p, h => by
    rw [← Nat.add_assoc, rTo, rTo_skip s n p (fun c h1 h2 => h c h1 (by omega)), rstep, h (p + n) (by omega) (by omega)]
    rfl
theorem rTo_run (s : BitVec 256) (l : List (Nat × Nat)) (lo : Nat) (h0 : rTo s lo = l) (hl : ∀ q ∈ l.getLast?, q.2 + 1 ≠ lo) : ∀ n, (∀ c, lo ≤ c → c < lo + n + 1 → s.getLsbD c = true) → rTo s (lo + n + 1) = l ++ [(lo, lo + n)]
  | 0, h => by
    rw [Nat.add_zero, rTo, h0, rstep, h lo (by omega) (by omega), if_pos rfl]
    split
    · rename_i a b e
      rw [if_neg (hl (a, b) (by rw [e]; rfl))]; rfl
    · rfl
  | n + 1, h => by
    have ih := rTo_run s l lo h0 hl n (fun c h1 h2 => h c h1 (by omega))
    rw [rTo, ← Nat.add_assoc, ih, rstep, h (lo + n + 1) (by omega) (by omega), if_pos rfl]
    simp
theorem rTo_runs (s : BitVec 256) : ∀ (m p : Nat) (l : List (Nat × Nat)), 256 - p ≤ m → p ≤ 256 → rTo s p = l → (∀ q ∈ l.getLast?, q.2 + 1 ≤ p) → (s.getLsbD p = true → ∀ q ∈ l.getLast?, q.2 + 1 ≠ p) → rTo s 256 = l ++ runs s p := by
  intro m
  induction m with
  | zero =>
    intro p l hm hp h0 _ _
    obtain rfl : p = 256 := by omega
    rw [h0, runs_end (by rw [fst_out (Nat.le_refl _)]; omega)]
    simp
  | succ m ih =>
    intro p l hm hp h0 h1 h2
    rcases fst_cases s p with ⟨g1, g2, g3, g4⟩ | ⟨g1, g2⟩
    · obtain ⟨e1, e2, e3⟩ := fst_not g2
      rw [runs_more g2]
      have hlo : rTo s (fst s p) = l := by
        have := rTo_skip s (fst s p - p) p (fun c c1 c2 => g4 c c1 (by omega))
        rw [show p + (fst s p - p) = fst s p from by omega] at this
        rw [this, h0]
      have hne : ∀ q ∈ l.getLast?, q.2 + 1 ≠ fst s p := fun q hq => by
        by_cases e : fst s p = p
        · rw [e]; exact h2 (by rw [← e]; exact g3) q hq
        · have := h1 q hq; omega
      have hall : ∀ c, fst s p ≤ c → c < fst (~~~s) (fst s p) → s.getLsbD c = true := fun c c1 c2 => by
        rcases fst_cases (~~~s) (fst s p) with ⟨_, _, _, k4⟩ | ⟨k1, k2⟩
        · have := k4 c c1 c2
          rw [BitVec.getLsbD_not] at this
          have l : c < 256 := by omega
          simpa [l] using this
        · have := k2 c c1 (by omega)
          rw [BitVec.getLsbD_not] at this
          have l : c < 256 := by omega
          simpa [l] using this
      have hrun := rTo_run s l (fst s p) hlo hne (fst (~~~s) (fst s p) - fst s p - 1) (fun c c1 c2 => hall c c1 (by omega))
      rw [show fst s p + (fst (~~~s) (fst s p) - fst s p - 1) + 1 = fst (~~~s) (fst s p) from by omega, show fst s p + (fst (~~~s) (fst s p) - fst s p - 1) = fst (~~~s) (fst s p) - 1 from by omega] at hrun
      have := ih (fst (~~~s) (fst s p)) (l ++ [(fst s p, fst (~~~s) (fst s p) - 1)]) (by omega) e3 hrun (by simp; omega) (by
        intro hb
        exfalso
        rcases fst_cases (~~~s) (fst s p) with ⟨_, k2, k3, _⟩ | ⟨k1, _⟩
        · rw [BitVec.getLsbD_not, hb] at k3; simp at k3
        · rw [k1] at hb
          have := BitVec.getLsbD_of_ge s 256 (Nat.le_refl _)
          rw [this] at hb; cases hb)
      rw [this]
      simp
    · have := rTo_skip s (256 - p) p (fun c c1 c2 => g2 c c1 (by omega))
      rw [show p + (256 - p) = 256 from by omega] at this
      rw [this, h0, runs_end (by omega)]
      simp
/-- Byte by byte they are the rows. -/
theorem rTo_all (s : BitVec 256) : rTo s 256 = runs s 0 := by
  have := rTo_runs s 256 0 [] (by omega) (by omega) rfl (by simp) (by simp)
  simpa using this
theorem runs_lt (s : BitVec 256) : ∀ (m p : Nat), 256 - p ≤ m → ∀ q ∈ runs s p, q.1 < 256 ∧ q.2 < 256 := by
  intro m
  induction m with
  | zero =>
    intro p hm q hq
    rw [runs_end (by rw [fst_out (by omega)]; omega)] at hq
    simp at hq
  | succ m ih =>
    intro p hm q hq
    by_cases h : fst s p < 256
    · rw [runs_more h] at hq
      have := fst_not h
      rcases List.mem_cons.1 hq with rfl | hq
      · exact ⟨h, by dsimp only; omega⟩
      · exact ih _ (by omega) q hq
    · rw [runs_end (by omega)] at hq
      simp at hq
theorem runs_length (s : BitVec 256) : ∀ (m p : Nat), 256 - p ≤ m → (runs s p).length ≤ m := by
  intro m
  induction m with
  | zero =>
    intro p hm
    rw [runs_end (by rw [fst_out (by omega)]; omega)]
    simp
  | succ m ih =>
    intro p hm
    by_cases h : fst s p < 256
    · rw [runs_more h]
      have := fst_not h
      have := ih (fst (~~~s) (fst s p)) (by omega)
      simp; omega
    · rw [runs_end (by omega)]
      simp
theorem rTo_length (s : BitVec 256) (k : Nat) : (rTo s k).length ≤ k := by
  induction k with
  | zero => simp [rTo]
  | succ k ih =>
    rw [rTo, rstep]
    split
    · split
      · split <;> simp <;> omega
      · simp; omega
    · omega
theorem rTo_lt (s : BitVec 256) (k : Nat) : ∀ q ∈ rTo s k, q.1 < k ∧ q.2 < k := by
  induction k with
  | zero => simp [rTo]
  | succ k ih =>
    intro q hq
    rw [rTo, rstep] at hq
    split at hq
    · split at hq
      · rename_i lo hi e
        split at hq
        · rcases List.mem_append.1 hq with h | h
          · have := ih q (List.dropLast_subset _ h); omega
          · simp at h; subst h
            have := ih (lo, hi) (List.mem_of_getLast? e)
            simp at this ⊢; omega
        · rcases List.mem_append.1 hq with h | h
          · have := ih q h; omega
          · simp at h; subst h; simp
      · rcases List.mem_append.1 hq with h | h
        · have := ih q h; omega
        · simp at h; subst h; simp
    · have := ih q hq; omega
end Go.Proofs.YtocllbdfdmpopaaDoor
