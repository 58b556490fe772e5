/- What BytesetTurns rests on: plain facts, no program. -/
import Derived.Test.YtocllbdfdmpopaaDoorC
import Derived.Test.YtocllbdfdmpopaaDoorR
import Derived.Test.YtocllbdfdmpopaaDoorW3
namespace Go.Proofs.YtocllbdfdmpopaaDoor

/-- The rows together have just the set's bytes. -/
theorem rTo_cover (s : BitVec 256) (x : Nat) : ∀ k, ((∃ q ∈ rTo s k, q.1 ≤ x ∧ x ≤ q.2) ↔ (x < k ∧ s.getLsbD x = true)) := by
  intro k
  induction k with
  | zero => simp [rTo]
  | succ k ih =>
    rw [rTo, rstep]
    cases hb : s.getLsbD k with
    | false =>
      simp only [Bool.false_eq_true, if_false]
      rw [ih]
      constructor
      · rintro ⟨h1, h2⟩; exact ⟨by omega, h2⟩
      · rintro ⟨h1, h2⟩
        refine ⟨?_, h2⟩
        by_cases e : x = k
        · subst e; rw [hb] at h2; cases h2
        · omega
    | true =>
      simp only [if_true]
      have hnew : (∃ q ∈ rTo s k ++ [(k, k)], q.1 ≤ x ∧ x ≤ q.2) ↔ (x < k + 1 ∧ s.getLsbD x = true) := by
        simp only [List.mem_append, List.mem_singleton]
        constructor
        · rintro ⟨q, hq | rfl, h⟩
          · have := ih.1 ⟨q, hq, h⟩; exact ⟨by omega, this.2⟩
          · obtain rfl : x = k := by dsimp only at h; omega
            exact ⟨by omega, hb⟩
        · rintro ⟨h1, h2⟩
          by_cases e : x = k
          · exact ⟨(k, k), .inr rfl, by dsimp only; omega, by dsimp only; omega⟩
          · obtain ⟨q, hq, h⟩ := ih.2 ⟨by omega, h2⟩
            exact ⟨q, .inl hq, h⟩
      split
      · rename_i lo hi e
        split
        · rename_i he
          obtain ⟨l, hl⟩ : ∃ l, rTo s k = l ++ [(lo, hi)] := ⟨(rTo s k).dropLast, by
            obtain ⟨ys, hy⟩ := List.getLast?_eq_some_iff.1 e
            rw [hy]; simp⟩
          rw [hl] at ih ⊢
          rw [List.dropLast_concat]
          have hlo : lo ≤ hi := by
            have := rTo_le s k (lo, hi) (by rw [hl]; simp)
            exact this
          simp only [List.mem_append, List.mem_singleton] at ih ⊢
          constructor
          · rintro ⟨q, hq | rfl, h⟩
            · have := ih.1 ⟨q, .inl hq, h⟩; exact ⟨by omega, this.2⟩
            · dsimp only at h
              by_cases ex : x = k
              · subst ex; exact ⟨by omega, hb⟩
              · have := ih.1 ⟨(lo, hi), .inr rfl, by dsimp only; omega, by dsimp only; omega⟩
                exact ⟨by omega, this.2⟩
          · rintro ⟨h1, h2⟩
            by_cases ex : x = k
            · exact ⟨(lo, k), .inr rfl, by dsimp only; omega, by dsimp only; omega⟩
            · obtain ⟨q, hq | rfl, h⟩ := ih.2 ⟨by omega, h2⟩
              · exact ⟨q, .inl hq, h⟩
              · dsimp only at h; exact ⟨(lo, k), .inr rfl, by dsimp only; omega, by dsimp only; omega⟩
        · exact hnew
      · exact hnew
where
  rTo_le (s : BitVec 256) : ∀ k, ∀ q ∈ rTo s k, q.1 ≤ q.2 := by
    intro k
    induction k with
    | zero => simp [rTo]
    | succ k ih =>
      intro q hq
      rw [rTo, rstep] at hq
      split at hq
      · split at hq
        · rename_i lo hi e
          split at hq
          · rename_i he
            rcases List.mem_append.1 hq with h | h
            · exact ih q (List.dropLast_subset _ h)
            · simp at h; subst h
              have := ih (lo, hi) (List.mem_of_getLast? e)
              dsimp only at *; omega
          · rcases List.mem_append.1 hq with h | h
            · exact ih q h
            · simp at h; subst h; simp
        · rcases List.mem_append.1 hq with h | h
          · exact ih q h
          · simp at h; subst h; simp
      · exact ih q hq
/-- The union of rows of bytes. -/
def covR : List (Nat × Nat) → BitVec 256
  | l => l.foldl (fun u q => u ||| ofP (rangeP q.1 q.2)) 0
theorem covR_nil : covR [] = 0 := rfl
theorem covR_snoc (l : List (Nat × Nat)) (q : Nat × Nat) : covR (l ++ [q]) = covR l ||| ofP (rangeP q.1 q.2) := by simp [covR]
theorem get_covR (l : List (Nat × Nat)) (x : Nat) (hx : x < 256) : (covR l).getLsbD x = true ↔ ∃ q ∈ l, q.1 ≤ x ∧ x ≤ q.2 := by
  rcases List.eq_nil_or_concat l with rfl | ⟨l', q, hc⟩
  · simp [covR_nil]
  · rw [List.concat_eq_append] at hc
    subst hc
    rw [covR_snoc, BitVec.getLsbD_or, get_ofP _ _ hx, Bool.or_eq_true]
    have ih := get_covR l' x hx
    rw [ih]
    simp only [List.mem_append, List.mem_singleton, rangeP, Bool.and_eq_true, decide_eq_true_eq]
    constructor
    · rintro (⟨r, hr, h⟩ | h)
      · exact ⟨r, .inl hr, h⟩
      · exact ⟨q, .inr rfl, h⟩
    · rintro ⟨r, hr | rfl, h⟩
      · exact .inl ⟨r, hr, h⟩
      · exact .inr h
  termination_by l.length
  decreasing_by subst hc; simp
theorem cov_runs (s : BitVec 256) : covR (runs s 0) = s := by
  apply bv_ext
  intro x hx
  apply bool_ext
  rw [get_covR _ _ hx, ← rTo_all, rTo_cover]
  simp [hx]

/-- Reps are alike to themselves alone. -/
theorem rep_unique {l : List (BitVec 256)} {r t : Nat} (hr : isRep l r = true) (ht : isRep l t = true) (h : alike l r t = true) : r = t := by
  rcases Nat.lt_trichotomy r t with g | g | g
  · rw [isRep_iff.1 ht r g] at h; cases h
  · exact g
  · have := isRep_iff.1 hr t g
    rw [alike_symm h] at this; cases this
/-- How many bytes below k some parts have together. -/
def sumC (l : List (BitVec 256)) (rs : List Nat) (k : Nat) : Nat := (rs.map (fun r => cnt (cls l r) k)).sum
theorem sumC_snoc (l : List (BitVec 256)) (rs : List Nat) (r k : Nat) : sumC l (rs ++ [r]) k = sumC l rs k + cnt (cls l r) k := by simp [sumC]
theorem sumC_step (l : List (BitVec 256)) (rs : List Nat) (k : Nat) (hk : k < 256) : sumC l rs (k + 1) = sumC l rs k + rs.countP (fun r => alike l k r) := by
  induction rs with
  | nil => simp [sumC]
  | cons r rs ih =>
    have e (j : Nat) : sumC l (r :: rs) j = cnt (cls l r) j + sumC l rs j := by simp [sumC]
    rw [e, e, ih, cnt, get_cls' l r k hk, List.countP_cons]
    cases alike l k r <;> simp <;> omega
theorem count_one (l : List (BitVec 256)) (x : Nat) : ∀ k, x < k → (reps l k).countP (fun r => alike l x r) = 1 := by
  intro k
  induction k with
  | zero => intro h; omega
  | succ k ih =>
    intro hx
    rw [reps]
    by_cases e : x = k
    · subst e
      have hz : isRep l x = true → (reps l x).countP (fun r => alike l x r) = 0 := fun h => by
        rw [List.countP_eq_zero]
        intro r hr
        have := isRep_iff.1 h r (mem_reps.1 hr).1
        intro ha
        rw [alike_symm ha] at this; cases this
      by_cases h : isRep l x = true
      · rw [if_pos h, List.countP_append, hz h]
        simp [alike_refl]
      · rw [if_neg h]
        obtain ⟨r, r1, r2, r3⟩ := rep_of l x x (Nat.le_refl _)
        have hrx : r < x := by
          rcases Nat.lt_or_ge r x with g | g
          · exact g
          · obtain rfl : r = x := by omega
            exact absurd r2 h
        have := ih' l r x hrx r2
        rw [← this]
        apply List.countP_congr
        intro t _
        constructor
        · intro ha; exact alike_trans (alike_symm r3) ha
        · intro ha; exact alike_trans r3 ha
    · have h1 := ih (by omega)
      split
      · rename_i h
        rw [List.countP_append, h1]
        have : alike l x k = false := isRep_iff.1 h x (by omega)
        simp [this]
      · exact h1
where
  ih' (l : List (BitVec 256)) (r : Nat) : ∀ k, r < k → isRep l r = true → (reps l k).countP (fun t => alike l r t) = 1 := by
    intro k
    induction k with
    | zero => intro h; omega
    | succ k ih =>
      intro hr h
      rw [reps]
      by_cases e : r = k
      · subst e
        rw [if_pos h, List.countP_append]
        have : (reps l r).countP (fun t => alike l r t) = 0 := by
          rw [List.countP_eq_zero]
          intro t ht ha
          have := isRep_iff.1 h t (mem_reps.1 ht).1
          rw [alike_symm ha] at this; cases this
        rw [this]; simp [alike_refl]
      · have h1 := ih (by omega) h
        split
        · rename_i hk
          rw [List.countP_append, h1]
          have : alike l r k = false := isRep_iff.1 hk r (by omega)
          simp [this]
        · exact h1
theorem sumC_all (l : List (BitVec 256)) : ∀ k, k ≤ 256 → sumC l (reps l 256) k = k := by
  intro k
  induction k with
  | zero => intro _; simp only [sumC]; induction (reps l 256) with
    | nil => rfl
    | cons r rs ih => simp [cnt] at ih ⊢; exact ih
  | succ k ih =>
    intro hk
    rw [sumC_step l _ k (by omega), ih (by omega), count_one l k 256 (by omega)]
theorem sumC_le (l : List (BitVec 256)) (rs rs' : List Nat) (k : Nat) : sumC l rs k ≤ sumC l (rs ++ rs') k := by simp [sumC]
/-- The union of those parts that a set has whole. -/
def unionIn (a : BitVec 256) (bs : List (BitVec 256)) : BitVec 256 := bs.foldl (fun u x => if x &&& a = x then u ||| x else u) 0
theorem unionIn_yes (a : BitVec 256) (bs : List (BitVec 256)) (x : BitVec 256) (h : x &&& a = x) : unionIn a (bs ++ [x]) = unionIn a bs ||| x := by simp [unionIn, h]
theorem unionIn_no (a : BitVec 256) (bs : List (BitVec 256)) (x : BitVec 256) (h : ¬ x &&& a = x) : unionIn a (bs ++ [x]) = unionIn a bs := by simp [unionIn, h]
theorem get_unionIn (a : BitVec 256) (bs : List (BitVec 256)) (y : Nat) : (unionIn a bs).getLsbD y = true ↔ ∃ x ∈ bs, x &&& a = x ∧ x.getLsbD y = true := by
  rcases List.eq_nil_or_concat bs with rfl | ⟨bs', x, hc⟩
  · simp [unionIn]
  · rw [List.concat_eq_append] at hc
    subst hc
    have ih := get_unionIn a bs' y
    by_cases h : x &&& a = x
    · rw [unionIn_yes _ _ _ h, BitVec.getLsbD_or, Bool.or_eq_true, ih]
      constructor
      · rintro (⟨z, hz, h1⟩ | h1)
        · exact ⟨z, by simp [hz], h1⟩
        · exact ⟨x, by simp, h, h1⟩
      · rintro ⟨z, hz, h1⟩
        rcases List.mem_append.1 hz with hz | hz
        · exact .inl ⟨z, hz, h1⟩
        · simp at hz; subst hz; exact .inr h1.2
    · rw [unionIn_no _ _ _ h, ih]
      constructor
      · rintro ⟨z, hz, h1⟩; exact ⟨z, by simp [hz], h1⟩
      · rintro ⟨z, hz, h1⟩
        rcases List.mem_append.1 hz with hz | hz
        · exact ⟨z, hz, h1⟩
        · simp at hz; subst hz; exact absurd h1.1 h
  termination_by bs.length
  decreasing_by subst hc; simp
theorem and_sub {x a : BitVec 256} (h : x &&& a = x) {y : Nat} (hy : x.getLsbD y = true) : a.getLsbD y = true := by
  rw [← h, BitVec.getLsbD_and] at hy
  simp at hy
  exact hy.2
/-- A set of the list is made of parts. -/
theorem unionIn_cut (l : List (BitVec 256)) (a : BitVec 256) (ha : a ∈ l) : unionIn a (cutL l) = a := by
  apply bv_ext
  intro y hy
  apply bool_ext
  rw [get_unionIn]
  constructor
  · rintro ⟨x, _, h1, h2⟩; exact and_sub h1 h2
  · intro h
    obtain ⟨r, r1, r2, r3⟩ := rep_of l y y (Nat.le_refl _)
    refine ⟨cls l r, List.mem_map.2 ⟨r, mem_reps.2 ⟨by omega, r2⟩, rfl⟩, ?_, by rw [get_cls' l r y hy]; exact r3⟩
    apply bv_ext
    intro z hz
    rw [BitVec.getLsbD_and, get_cls' l r z hz]
    cases hzr : alike l z r with
    | false => rfl
    | true =>
      have hzy := alike_trans hzr (alike_symm r3)
      simp only [alike, List.all_eq_true, beq_iff_eq] at hzy
      rw [hzy a ha, h]; rfl
/-- Two sets cut at most four parts. -/
theorem four (a b : BitVec 256) : (cutL [a, b]).length ≤ 4 := by
  unfold cutL
  rw [List.length_map]
  have key : ∀ k, ∀ x y : Bool, ((reps [a, b] k).countP (fun r => a.getLsbD r == x && b.getLsbD r == y)) ≤ 1 := by
    intro k x y
    induction k with
    | zero => simp [reps]
    | succ k ih =>
      rw [reps]
      split
      · rename_i h
        rw [List.countP_append]
        by_cases hk : (a.getLsbD k == x && b.getLsbD k == y) = true
        · have : (reps [a, b] k).countP (fun r => a.getLsbD r == x && b.getLsbD r == y) = 0 := by
            rw [List.countP_eq_zero]
            intro r hr h2
            have h3 := isRep_iff.1 h r (mem_reps.1 hr).1
            simp [alike] at h3 h2 hk
            obtain ⟨e1, e2⟩ := h2
            obtain ⟨e3, e4⟩ := hk
            exact h3 (e1.trans e3.symm) (e2.trans e4.symm)
          rw [this]; simp [hk]
        · simp only [Bool.not_eq_true] at hk
          simp [hk, ih]
      · exact ih
  have split4 : ∀ rs : List Nat, rs.length = rs.countP (fun r => a.getLsbD r == true && b.getLsbD r == true) + rs.countP (fun r => a.getLsbD r == true && b.getLsbD r == false) + rs.countP (fun r => a.getLsbD r == false && b.getLsbD r == true) + rs.countP (fun r => a.getLsbD r == false && b.getLsbD r == false) := by
    intro rs
    induction rs with
    | nil => rfl
    | cons r rs ih =>
      rw [List.length_cons, ih, List.countP_cons, List.countP_cons, List.countP_cons, List.countP_cons]
      cases a.getLsbD r <;> cases b.getLsbD r <;> simp <;> omega
  rw [split4]
  have h1 := key 256 true true
  have h2 := key 256 true false
  have h3 := key 256 false true
  have h4 := key 256 false false
  omega
end Go.Proofs.YtocllbdfdmpopaaDoor
