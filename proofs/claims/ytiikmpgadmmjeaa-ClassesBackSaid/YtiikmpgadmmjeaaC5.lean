/- Mathematics of classes: numbers of bytes by what tells them apart, in the order of their least ones. -/
import Derived.Test.YtiikmpgadmmjeaaC2
set_option maxRecDepth 100000
namespace Go.Proofs.Ytiikmpgadmmjeaa

/-- The first of each class among the first bytes. -/
def repsUp (E : Nat → Nat → Bool) : Nat → List Nat
  | 0 => []
  | b + 1 => if (repsUp E b).any (fun x => E x b) then repsUp E b else repsUp E b ++ [b]
/-- A byte's class. -/
def clsOf (E : Nat → Nat → Bool) (b : Nat) : Nat := (repsUp E b).findIdx fun x => E x b
structure Eqv (E : Nat → Nat → Bool) : Prop where
  refl : ∀ a, E a a = true
  symm : ∀ a b, E a b = true → E b a = true
  trans : ∀ a b c, E a b = true → E b c = true → E a c = true
theorem any_idx {l : List Nat} {p : Nat → Bool} : l.any p = true ↔ l.findIdx p < l.length := by
  rw [List.findIdx_lt_length, List.any_eq_true]
theorem reps_old {E : Nat → Nat → Bool} {b : Nat} (h : clsOf E b < (repsUp E b).length) : repsUp E (b + 1) = repsUp E b := by
  show (if _ then _ else _) = _
  rw [if_pos (any_idx.2 h)]
theorem reps_new {E : Nat → Nat → Bool} {b : Nat} (h : ¬ clsOf E b < (repsUp E b).length) : repsUp E (b + 1) = repsUp E b ++ [b] := by
  show (if _ then _ else _) = _
  rw [if_neg fun h1 => h (any_idx.1 h1)]
theorem cls_le (E : Nat → Nat → Bool) (b : Nat) : clsOf E b ≤ (repsUp E b).length := List.findIdx_le_length
theorem reps_step (E : Nat → Nat → Bool) (b : Nat) : repsUp E (b + 1) = repsUp E b ∨ repsUp E (b + 1) = repsUp E b ++ [b] := by
  by_cases h : clsOf E b < (repsUp E b).length
  · exact .inl (reps_old h)
  · exact .inr (reps_new h)
theorem reps_pre (E : Nat → Nat → Bool) (b : Nat) : ∀ k, ∃ r, repsUp E (b + k) = repsUp E b ++ r
  | 0 => ⟨[], by simp⟩
  | k + 1 => by
    obtain ⟨r, hr⟩ := reps_pre E b k
    rcases reps_step E (b + k) with h | h
    · exact ⟨r, h.trans hr⟩
    · exact ⟨r ++ [b + k], by rw [show b + (k + 1) = b + k + 1 from rfl, h, hr, List.append_assoc]⟩
theorem reps_lt (E : Nat → Nat → Bool) : ∀ b x, x ∈ repsUp E b → x < b
  | 0, x, h => by cases h
  | b + 1, x, h => by
    rcases reps_step E b with e | e
    · rw [e] at h; have := reps_lt E b x h; omega
    · rw [e] at h
      rcases List.mem_append.1 h with h | h
      · have := reps_lt E b x h; omega
      · rw [List.mem_singleton] at h; omega
theorem reps_len (E : Nat → Nat → Bool) : ∀ b, (repsUp E b).length ≤ b
  | 0 => Nat.le_refl 0
  | b + 1 => by
    have := reps_len E b
    rcases reps_step E b with e | e
    · rw [e]; omega
    · rw [e, List.length_append, List.length_singleton]; omega
theorem reps_rise (E : Nat → Nat → Bool) : ∀ b, (repsUp E b).Pairwise (· < ·)
  | 0 => List.Pairwise.nil
  | b + 1 => by
    have := reps_rise E b
    rcases reps_step E b with e | e
    · rw [e]; exact this
    · rw [e, List.pairwise_append]
      exact ⟨this, List.pairwise_singleton _ _, fun x hx y hy => by rw [List.mem_singleton] at hy; rw [hy]; exact reps_lt E b x hx⟩
theorem reps_apart {E : Nat → Nat → Bool} : ∀ b, (repsUp E b).Pairwise (fun x y => E x y = false)
  | 0 => List.Pairwise.nil
  | b + 1 => by
    have h1 := reps_apart (E := E) b
    by_cases h : clsOf E b < (repsUp E b).length
    · rw [reps_old h]; exact h1
    · rw [reps_new h, List.pairwise_append]
      refine ⟨h1, List.pairwise_singleton _ _, fun x hx y hy => ?_⟩
      rw [List.mem_singleton] at hy; subst hy
      rw [Bool.eq_false_iff]
      intro h2
      exact h (any_idx.1 (List.any_eq_true.2 ⟨x, hx, h2⟩))
/-- Each byte is of the class of the first of them. -/
theorem cls_at {E : Nat → Nat → Bool} (hE : Eqv E) {b n : Nat} (hb : b < n) : ∃ h : clsOf E b < (repsUp E n).length, E (repsUp E n)[clsOf E b] b = true ∧ (repsUp E n)[clsOf E b] ≤ b := by
  obtain ⟨r, hr⟩ := reps_pre E (b + 1) (n - (b + 1))
  rw [show b + 1 + (n - (b + 1)) = n by omega] at hr
  by_cases h : clsOf E b < (repsUp E b).length
  · rw [reps_old h] at hr
    have h1 : clsOf E b < (repsUp E n).length := by rw [hr, List.length_append]; omega
    have e : (repsUp E n)[clsOf E b] = (repsUp E b)[clsOf E b] := by simp only [hr]; rw [List.getElem_append_left h]
    refine ⟨h1, ?_, ?_⟩
    · rw [e]; exact List.findIdx_getElem (w := h)
    · rw [e]; have := reps_lt E b _ (List.getElem_mem h); omega
  · have hc : clsOf E b = (repsUp E b).length := by have := cls_le E b; omega
    rw [reps_new h] at hr
    have h1 : clsOf E b < (repsUp E n).length := by rw [hr, List.length_append, List.length_append, List.length_singleton]; omega
    have e : (repsUp E n)[clsOf E b] = b := by
      simp only [hr]
      rw [List.getElem_append_left (by rw [List.length_append, List.length_singleton]; omega)]
      simp [hc]
    exact ⟨h1, by rw [e]; exact hE.refl b, by rw [e]; exact Nat.le_refl b⟩
theorem rep_one {E : Nat → Nat → Bool} {n i j : Nat} (hi : i < (repsUp E n).length) (hj : j < (repsUp E n).length) (hE : Eqv E) (h : E (repsUp E n)[i] (repsUp E n)[j] = true) : i = j := by
  have ha := List.pairwise_iff_getElem.1 (reps_apart (E := E) n)
  rcases Nat.lt_trichotomy i j with h1 | h1 | h1
  · rw [ha i j hi hj h1] at h; cases h
  · exact h1
  · have := ha j i hj hi h1
    rw [hE.symm _ _ h] at this; cases this
theorem cls_iff {E : Nat → Nat → Bool} (hE : Eqv E) (a b : Nat) : clsOf E a = clsOf E b ↔ E a b = true := by
  obtain ⟨h1, h2, _⟩ := cls_at hE (show a < a + b + 1 by omega)
  obtain ⟨h3, h4, _⟩ := cls_at hE (show b < a + b + 1 by omega)
  constructor
  · intro h
    have e : (repsUp E (a + b + 1))[clsOf E a] = (repsUp E (a + b + 1))[clsOf E b] := by simp only [h]
    rw [e] at h2
    exact hE.trans _ _ _ (hE.symm _ _ h2) h4
  · intro h
    exact rep_one h1 h3 hE (hE.trans _ _ _ h2 (hE.trans _ _ _ h (hE.symm _ _ h4)))
theorem cls_rep {E : Nat → Nat → Bool} (hE : Eqv E) {n k : Nat} (hk : k < (repsUp E n).length) : clsOf E (repsUp E n)[k] = k := by
  have hl := reps_lt E n _ (List.getElem_mem hk)
  obtain ⟨h1, h2, _⟩ := cls_at hE hl
  exact rep_one h1 hk hE h2
/-- The first of a class is its least byte. -/
theorem rep_least {E : Nat → Nat → Bool} (hE : Eqv E) {n k b : Nat} (hk : k < (repsUp E n).length) (hb : b < n) (h : clsOf E b = k) : (repsUp E n)[k] ≤ b := by
  obtain ⟨h1, _, h3⟩ := cls_at hE hb
  simp only [h] at h3
  exact h3
theorem reps_congr {E F : Nat → Nat → Bool} : ∀ n, (∀ a b, a < n → b < n → E a b = F a b) → repsUp E n = repsUp F n
  | 0, _ => rfl
  | n + 1, h => by
    have ih := reps_congr n fun a b ha hb => h a b (by omega) (by omega)
    show (if (repsUp E n).any (fun x => E x n) then repsUp E n else repsUp E n ++ [n]) = (if (repsUp F n).any (fun x => F x n) then repsUp F n else repsUp F n ++ [n])
    rw [ih]
    have : (repsUp F n).any (fun x => E x n) = (repsUp F n).any (fun x => F x n) := by
      rw [Bool.eq_iff_iff, List.any_eq_true, List.any_eq_true]
      constructor
      · rintro ⟨x, hx, h1⟩; exact ⟨x, hx, by rw [← h x n (by have := reps_lt F n x hx; omega) (by omega)]; exact h1⟩
      · rintro ⟨x, hx, h1⟩; exact ⟨x, hx, by rw [h x n (by have := reps_lt F n x hx; omega) (by omega)]; exact h1⟩
    rw [this]
theorem findIdx_congr' {p q : Nat → Bool} : ∀ (l : List Nat), (∀ x ∈ l, p x = q x) → l.findIdx p = l.findIdx q
  | [], _ => rfl
  | x :: l, h => by
    rw [List.findIdx_cons, List.findIdx_cons, h x (by simp), findIdx_congr' l fun y hy => h y (by simp [hy])]
theorem cls_congr {E F : Nat → Nat → Bool} {n : Nat} (h : ∀ a b, a < n → b < n → E a b = F a b) {b : Nat} (hb : b < n) : clsOf E b = clsOf F b := by
  unfold clsOf
  rw [reps_congr b fun x y hx hy => h x y (by omega) (by omega)]
  exact findIdx_congr' _ fun x hx => h x b (by have := reps_lt F b x hx; omega) hb
/-- The greatest of the first numbers. -/
def mxOf (c : Nat → Nat) : Nat → Nat
  | 0 => 0
  | n + 1 => max (mxOf c n) (c n)
theorem mx_ge (c : Nat → Nat) : ∀ n i, i < n → c i ≤ mxOf c n
  | 0, _, h => by omega
  | n + 1, i, h => by
    show c i ≤ max (mxOf c n) (c n)
    by_cases e : i = n
    · subst e; omega
    · have := mx_ge c n i (by omega); omega
theorem mx_le (c : Nat → Nat) (k : Nat) : ∀ n, (∀ i, i < n → c i ≤ k) → mxOf c n ≤ k
  | 0, _ => Nat.zero_le _
  | n + 1, h => by
    show max (mxOf c n) (c n) ≤ k
    have h1 := mx_le c k n fun i hi => h i (by omega)
    have h2 := h n (by omega)
    omega
/-- There are as many classes as the greatest one tells. -/
theorem cls_count {E : Nat → Nat → Bool} (hE : Eqv E) {n : Nat} (hn : 0 < n) : mxOf (clsOf E) n + 1 = (repsUp E n).length := by
  have h0 : 0 < (repsUp E n).length := by
    obtain ⟨h, _⟩ := cls_at hE hn
    omega
  apply Nat.le_antisymm
  · have : mxOf (clsOf E) n ≤ (repsUp E n).length - 1 := mx_le _ _ n fun i hi => by
      obtain ⟨h, _⟩ := cls_at hE hi
      omega
    omega
  · have hk : (repsUp E n).length - 1 < (repsUp E n).length := by omega
    have h1 := cls_rep hE hk
    have h2 := mx_ge (clsOf E) n _ (reps_lt E n _ (List.getElem_mem hk))
    omega
/-- The least byte of a class, from above; 0 if there is none: the bytes from 256 - j on. -/
def lowF (c : Nat → Nat) : Nat → Nat → Nat
  | 0, _ => 0
  | j + 1, k => if c (255 - j) = k then 255 - j else lowF c j k
theorem low_lt (c : Nat → Nat) : ∀ j k, lowF c j k < 256
  | 0, _ => by show 0 < 256; omega
  | j + 1, k => by
    show (if _ then _ else _) < 256
    split
    · exact Nat.lt_of_le_of_lt (Nat.sub_le 255 j) (by omega)
    · exact low_lt c j k
theorem low_is (c : Nat → Nat) {k b : Nat} (hb : b < 256) (hc : c b = k) (hl : ∀ x, x < 256 → c x = k → b ≤ x) : ∀ j, j ≤ 256 → 256 - j ≤ b → lowF c j k = b
  | 0, _, h => by omega
  | j + 1, hj, h => by
    show (if c (255 - j) = k then 255 - j else lowF c j k) = b
    split
    · rename_i e
      have := hl (255 - j) (by omega) e
      omega
    · rename_i e
      have hne : b ≠ 255 - j := fun h1 => e (h1 ▸ hc)
      exact low_is c hb hc hl j (by omega) (by omega)
/-- The least bytes of the classes are the first ones. -/
theorem low_rep {E : Nat → Nat → Bool} (hE : Eqv E) {k : Nat} (hk : k < (repsUp E 256).length) : lowF (clsOf E) 256 k = (repsUp E 256)[k] :=
  low_is _ (reps_lt E 256 _ (List.getElem_mem hk)) (cls_rep hE hk) (fun _ hx hc => rep_least hE hk hx hc) 256 (Nat.le_refl _) (by omega)
theorem low_congr {c d : Nat → Nat} (h : ∀ b, b < 256 → c b = d b) : ∀ j k, lowF c j k = lowF d j k
  | 0, _ => rfl
  | j + 1, k => by
    show (if _ then _ else _) = (if _ then _ else _)
    rw [h (255 - j) (by omega), low_congr h j k]
theorem mx_congr {c d : Nat → Nat} : ∀ n, (∀ b, b < n → c b = d b) → mxOf c n = mxOf d n
  | 0, _ => rfl
  | n + 1, h => by
    show max _ _ = max _ _
    rw [h n (by omega), mx_congr n fun b hb => h b (by omega)]
end Go.Proofs.Ytiikmpgadmmjeaa
