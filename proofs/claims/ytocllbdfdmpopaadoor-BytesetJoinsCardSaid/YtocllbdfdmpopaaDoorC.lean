/- The parts into which sets cut all bytes: plain facts, no program. -/
import Derived.Test.YtocllbdfdmpopaaDoorF
import Derived.Test.YtocllbdfdmpopaaDoorWA
namespace Go.Proofs.YtocllbdfdmpopaaDoor

/-- Two bytes are in the same sets. -/
def alike (l : List (BitVec 256)) (x y : Nat) : Bool := l.all (fun s => s.getLsbD x == s.getLsbD y)
theorem alike_refl (l : List (BitVec 256)) (x : Nat) : alike l x x = true := by simp [alike]
theorem alike_symm {l : List (BitVec 256)} {x y : Nat} (h : alike l x y = true) : alike l y x = true := by
  simp only [alike, List.all_eq_true, beq_iff_eq] at *
  exact fun s hs => (h s hs).symm
theorem alike_trans {l : List (BitVec 256)} {x y z : Nat} (h : alike l x y = true) (k : alike l y z = true) : alike l x z = true := by
  simp only [alike, List.all_eq_true, beq_iff_eq] at *
  exact fun s hs => (h s hs).trans (k s hs)
theorem get_cls' (l : List (BitVec 256)) (b x : Nat) (hx : x < 256) : (cls l b).getLsbD x = alike l x b := get_cls l b x hx
/-- No lesser byte is alike. -/
def isRep (l : List (BitVec 256)) (b : Nat) : Bool := (List.range b).all (fun c => !alike l c b)
theorem isRep_iff {l : List (BitVec 256)} {b : Nat} : isRep l b = true ↔ ∀ c, c < b → alike l c b = false := by
  simp [isRep]
/-- The lowest bytes of the parts, below k. -/
def reps (l : List (BitVec 256)) : Nat → List Nat
  | 0 => []
  | k + 1 => if isRep l k then reps l k ++ [k] else reps l k
theorem mem_reps {l : List (BitVec 256)} {k r : Nat} : r ∈ reps l k ↔ r < k ∧ isRep l r = true := by
  induction k with
  | zero => simp [reps]
  | succ k ih =>
    rw [reps]
    split
    · rename_i h
      rw [List.mem_append, ih]
      simp only [List.mem_singleton]
      constructor
      · rintro (⟨a, b⟩ | rfl)
        · exact ⟨by omega, b⟩
        · exact ⟨by omega, h⟩
      · rintro ⟨a, b⟩
        by_cases e : r = k
        · exact .inr e
        · exact .inl ⟨by omega, b⟩
    · rename_i h
      rw [ih]
      constructor
      · rintro ⟨a, b⟩; exact ⟨by omega, b⟩
      · rintro ⟨a, b⟩
        refine ⟨?_, b⟩
        by_cases e : r = k
        · subst e; exact absurd b h
        · omega
theorem reps_length (l : List (BitVec 256)) (k : Nat) : (reps l k).length ≤ k := by
  induction k with
  | zero => simp [reps]
  | succ k ih =>
    rw [reps]
    split
    · simp; omega
    · omega
theorem reps_skip {l : List (BitVec 256)} : ∀ (n q : Nat), (∀ c, q ≤ c → c < q + n → isRep l c = false) → reps l (q + n) = reps l q
  | 0, _, _ => rfl
  | n + 1, q, h => by
    rw [← Nat.add_assoc, reps, h (q + n) (by omega) (by omega), reps_skip n q (fun c h1 h2 => h c h1 (by omega))]
    rfl
/-- Each byte is alike to a lowest one. -/
theorem rep_of (l : List (BitVec 256)) : ∀ (n x : Nat), x ≤ n → ∃ r, r ≤ x ∧ isRep l r = true ∧ alike l x r = true := by
  intro n
  induction n with
  | zero =>
    intro x hx
    obtain rfl : x = 0 := by omega
    exact ⟨0, Nat.le_refl _, by rw [isRep_iff]; omega, alike_refl l 0⟩
  | succ n ih =>
    intro x hx
    by_cases h : isRep l x = true
    · exact ⟨x, Nat.le_refl _, h, alike_refl l x⟩
    · have : ∃ c, c < x ∧ alike l c x = true := by
        apply Classical.byContradiction
        intro hn
        apply h
        rw [isRep_iff]
        intro c hc
        cases hq : alike l c x with
        | false => rfl
        | true => exact absurd ⟨c, hc, hq⟩ hn
      obtain ⟨c, hc, ha⟩ := this
      obtain ⟨r, h1, h2, h3⟩ := ih c (by omega)
      exact ⟨r, by omega, h2, alike_trans (alike_symm ha) h3⟩
/-- The bytes that are alike to none of the first parts'. -/
def rem (l : List (BitVec 256)) (p : Nat) : BitVec 256 := ofP (fun x => (reps l p).all (fun r => !alike l x r))
theorem get_rem {l : List (BitVec 256)} {p x : Nat} (hx : x < 256) : (rem l p).getLsbD x = true ↔ ∀ r, r < p → isRep l r = true → alike l x r = false := by
  unfold rem
  rw [get_ofP _ _ hx]
  simp only [List.all_eq_true, Bool.not_eq_true']
  constructor
  · intro h r h1 h2; exact h r (mem_reps.2 ⟨h1, h2⟩)
  · intro h r hr; exact h r (mem_reps.1 hr).1 (mem_reps.1 hr).2
theorem rem_zero (l : List (BitVec 256)) : rem l 0 = full := by
  apply bv_ext
  intro x hx
  rw [get_full x hx, get_rem hx]
  omega
theorem bool_ext {a b : Bool} (h : a = true ↔ b = true) : a = b := Bool.eq_iff_iff.2 h
/-- The lowest one that is left begins a part. -/
theorem rem_first {l : List (BitVec 256)} {p : Nat} (hf : fst (rem l p) 0 = p) (hp : p < 256) : isRep l p = true ∧ rem l (p + 1) = rem l p &&& ~~~(cls l p) ∧ p < fst (rem l (p + 1)) 0 ∧ reps l (fst (rem l (p + 1)) 0) = reps l p ++ [p] ∧ rem l (fst (rem l (p + 1)) 0) = rem l (p + 1) := by
  have hc := fst_cases (rem l p) 0
  rw [hf] at hc
  rcases hc with ⟨_, _, h3, h4⟩ | ⟨h, _⟩
  · have hrep : isRep l p = true := by
      obtain ⟨r, r1, r2, r3⟩ := rep_of l p p (Nat.le_refl _)
      by_cases e : r = p
      · subst e; exact r2
      · have := (get_rem hp).1 h3 r (by omega) r2
        rw [this] at r3; cases r3
    have hrem : rem l (p + 1) = rem l p &&& ~~~(cls l p) := by
      apply bv_ext
      intro x hx
      rw [BitVec.getLsbD_and, BitVec.getLsbD_not, get_cls' l p x hx]
      apply bool_ext
      rw [get_rem hx]
      simp only [Bool.and_eq_true, hx, decide_true, Bool.not_eq_true', true_and]
      rw [get_rem hx]
      constructor
      · intro h; exact ⟨fun r h1 h2 => h r (by omega) h2, h p (by omega) hrep⟩
      · rintro ⟨h1, h2⟩ r hr hr2
        by_cases e : r = p
        · subst e; exact h2
        · exact h1 r (by omega) hr2
    have hno : ∀ c, c < 256 → c < p + 1 → (rem l (p + 1)).getLsbD c = false := fun c c1 c2 => by
      cases hq : (rem l (p + 1)).getLsbD c with
      | false => rfl
      | true =>
        obtain ⟨r, r1, r2, r3⟩ := rep_of l c c (Nat.le_refl _)
        rw [(get_rem c1).1 hq r (by omega) r2] at r3; cases r3
    have hgt : p < fst (rem l (p + 1)) 0 := by
      rcases fst_cases (rem l (p + 1)) 0 with ⟨_, k2, k3, _⟩ | ⟨k1, _⟩
      · apply Nat.lt_of_not_le
        intro hle
        rw [hno _ k2 (by omega)] at k3; cases k3
      · omega
    have hskip : reps l (fst (rem l (p + 1)) 0) = reps l (p + 1) := by
      have hle := fst_le (rem l (p + 1)) 0
      have := reps_skip (l := l) (fst (rem l (p + 1)) 0 - (p + 1)) (p + 1) (fun c c1 c2 => by
        have hc : c < fst (rem l (p + 1)) 0 := by omega
        have hb : (rem l (p + 1)).getLsbD c = false := by
          rcases fst_cases (rem l (p + 1)) 0 with ⟨_, _, _, k4⟩ | ⟨_, k2⟩
          · exact k4 c (by omega) hc
          · exact k2 c (by omega) (by omega)
        cases hq : isRep l c with
        | false => rfl
        | true =>
          have : (rem l (p + 1)).getLsbD c = true := (get_rem (by omega)).2 (fun r h1 _ => by
            cases ha : alike l c r with
            | false => rfl
            | true =>
              have := isRep_iff.1 hq r (by omega)
              rw [alike_symm ha] at this; cases this)
          rw [hb] at this; cases this)
      rw [show p + 1 + (fst (rem l (p + 1)) 0 - (p + 1)) = fst (rem l (p + 1)) 0 from by omega] at this
      exact this
    have he : reps l (p + 1) = reps l p ++ [p] := by rw [reps, hrep]; rfl
    refine ⟨hrep, hrem, hgt, by rw [hskip, he], ?_⟩
    unfold rem at hskip ⊢; rw [hskip]
  · omega
theorem rem_none {l : List (BitVec 256)} {p : Nat} (hf : fst (rem l p) 0 = p) (h : rem l p = 0) : p = 256 := by
  rw [h] at hf
  rw [← hf]
  exact fst_none (fun c _ _ => by simp)
theorem rem_some {l : List (BitVec 256)} {p : Nat} (hf : fst (rem l p) 0 = p) (h : rem l p ≠ 0) : p < 256 := by
  have hc := fst_cases (rem l p) 0
  rw [hf] at hc
  rcases hc with ⟨_, h2, _⟩ | ⟨_, h2⟩
  · exact h2
  · exact absurd (bv_ext (fun c hc => by rw [h2 c (by omega) hc]; simp)) h
/-- The parts, by their lowest bytes. -/
def cutL (l : List (BitVec 256)) : List (BitVec 256) := (reps l 256).map (cls l)
end Go.Proofs.YtocllbdfdmpopaaDoor
