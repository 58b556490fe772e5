/- Mathematics of chapter 11: numbers, sums and machines as bytes. -/
import Derived.Test.YtmhjabodhgacnaaXB
set_option maxRecDepth 100000
namespace Go.Proofs.Ytmhjabodhgacnaa

/-- A number's bytes. -/
def numB (n : Nat) : List Nat := if n < 128 then [n] else (n % 128 + 128) :: numB (n / 128)
termination_by n
decreasing_by omega
theorem numB_lt {n : Nat} (h : n < 128) : numB n = [n] := by rw [numB, if_pos h]
theorem numB_ge {n : Nat} (h : ¬ n < 128) : numB n = (n % 128 + 128) :: numB (n / 128) := by rw [numB, if_neg h]
theorem numB_pos (n : Nat) : 1 ≤ (numB n).length := by
  rw [numB]; split <;> simp
theorem numB_bytes : ∀ (n : Nat), ∀ x ∈ numB n, x < 256 := by
  intro n
  induction n using Nat.strongRecOn with
  | _ n ih =>
    by_cases h : n < 128
    · rw [numB_lt h]; intro x hx; simp at hx; omega
    · rw [numB_ge h]
      intro x hx
      rcases List.mem_cons.1 hx with rfl | hx
      · omega
      · exact ih (n / 128) (by omega) x hx
theorem numB_len : ∀ (k n : Nat), n < 128 ^ (k + 1) → (numB n).length ≤ k + 1
  | 0, n, h => by rw [numB_lt (by simpa using h)]; simp
  | k + 1, n, h => by
    by_cases h1 : n < 128
    · rw [numB_lt h1]; simp
    · rw [numB_ge h1, List.length_cons]
      have := numB_len k (n / 128) (by rw [Nat.div_lt_iff_lt_mul (by omega)]; rw [← Nat.pow_succ]; exact h)
      omega
theorem numB_ten {n : Nat} (h : n < 18446744073709551616) : (numB n).length ≤ 10 := numB_len 9 n (Nat.lt_of_lt_of_le h (by decide))
/-- The number that bytes begin with, and its length, of any size. -/
def vrd : List Nat → Option (Nat × Nat)
  | [] => none
  | x :: l => if x < 128 then some (x, 1) else match vrd l with
    | none => none
    | some (n, k) => if n = 0 then none else some (x - 128 + 128 * n, k + 1)
theorem vrd_num : ∀ (n : Nat) (r : List Nat), vrd (numB n ++ r) = some (n, (numB n).length) := by
  intro n
  induction n using Nat.strongRecOn with
  | _ n ih =>
    intro r
    by_cases h : n < 128
    · rw [numB_lt h]; simp [vrd, h]
    · rw [numB_ge h, List.cons_append, vrd, if_neg (by omega), ih (n / 128) (by omega) r]
      simp only []
      rw [if_neg (by omega), List.length_cons]
      congr 2
      omega
theorem vrd_some : ∀ {l : List Nat} {n k : Nat}, (∀ x ∈ l, x < 256) → vrd l = some (n, k) → k = (numB n).length ∧ l = numB n ++ l.drop k
  | [], n, k, _, h => by simp [vrd] at h
  | x :: l, n, k, hb, h => by
    rw [vrd] at h
    by_cases hx : x < 128
    · rw [if_pos hx] at h
      simp only [Option.some.injEq, Prod.mk.injEq] at h
      obtain ⟨rfl, rfl⟩ := h
      rw [numB_lt hx]; simp
    · rw [if_neg hx] at h
      cases hv : vrd l with
      | none => rw [hv] at h; cases h
      | some p =>
        obtain ⟨n', k'⟩ := p
        rw [hv] at h
        simp only [] at h
        by_cases hn : n' = 0
        · rw [if_pos hn] at h; cases h
        · rw [if_neg hn] at h
          simp only [Option.some.injEq, Prod.mk.injEq] at h
          obtain ⟨rfl, rfl⟩ := h
          obtain ⟨h1, h2⟩ := vrd_some (fun y hy => hb y (by simp [hy])) hv
          have hx2 := hb x (by simp)
          have hge : ¬ (x - 128 + 128 * n' < 128) := by omega
          rw [numB_ge hge, show (x - 128 + 128 * n') % 128 + 128 = x from by omega, show (x - 128 + 128 * n') / 128 = n' from by omega]
          refine ⟨by simp [h1], ?_⟩
          rw [List.drop_succ_cons, List.cons_append, ← h2]
/-- Value: what is told. -/
def valB (l : List Nat) : Nat × Nat := match vrd l with
  | none => (0, 0)
  | some (n, k) => if n < 18446744073709551616 then (n, k) else (0, 0)
theorem valB_none {l : List Nat} (h : vrd l = none) : valB l = (0, 0) := by rw [valB, h]
theorem valB_some {l : List Nat} {n k : Nat} (h : vrd l = some (n, k)) (hn : n < 18446744073709551616) : valB l = (n, k) := by rw [valB, h]; exact if_pos hn
theorem valB_over {l : List Nat} {n k : Nat} (h : vrd l = some (n, k)) (hn : ¬ n < 18446744073709551616) : valB l = (0, 0) := by rw [valB, h]; exact if_neg hn
theorem valB_num {n : Nat} (h : n < 18446744073709551616) (r : List Nat) : valB (numB n ++ r) = (n, (numB n).length) := valB_some (vrd_num n r) h
theorem valB_lt (l : List Nat) : (valB l).1 < 18446744073709551616 := by
  unfold valB
  split
  · simp
  · split
    · assumption
    · simp
theorem valB_yes {l : List Nat} (hb : ∀ x ∈ l, x < 256) (h : (valB l).2 ≠ 0) : (valB l).2 = (numB (valB l).1).length ∧ l = numB (valB l).1 ++ l.drop (valB l).2 := by
  cases hv : vrd l with
  | none => rw [valB_none hv] at h; exact absurd rfl h
  | some p =>
    obtain ⟨n, k⟩ := p
    by_cases hn : n < 18446744073709551616
    · rw [valB_some hv hn]; exact vrd_some hb hv
    · rw [valB_over hv hn] at h; exact absurd rfl h
theorem valB_len {l : List Nat} (hb : ∀ x ∈ l, x < 256) : (valB l).2 ≤ l.length := by
  by_cases h : (valB l).2 = 0
  · omega
  · obtain ⟨h1, h2⟩ := valB_yes hb h
    have h3 := congrArg List.length h2
    rw [List.length_append] at h3
    omega
theorem valB_zero {l : List Nat} (h : (valB l).2 = 0) : (valB l).1 = 0 := by
  cases hv : vrd l with
  | none => rw [valB_none hv]
  | some p =>
    obtain ⟨n, k⟩ := p
    by_cases hn : n < 18446744073709551616
    · rw [valB_some hv hn] at h
      exfalso
      have : ∀ (l : List Nat) (n k : Nat), vrd l = some (n, k) → k ≠ 0 := by
        intro l
        cases l with
        | nil => intro n k h; simp [vrd] at h
        | cons x l =>
          intro n k h
          rw [vrd] at h
          split at h
          · simp at h; omega
          · split at h
            · cases h
            · split at h
              · cases h
              · simp at h; omega
      exact this l n k hv h
    · rw [valB_over hv hn]
theorem valB_ten {l : List Nat} (hb : ∀ x ∈ l, x < 256) : (valB l).2 ≤ 10 := by
  by_cases h : (valB l).2 = 0
  · omega
  · rw [(valB_yes hb h).1]; exact numB_ten (valB_lt l)
/-- What the first groups come to. -/
def lowG (l : List Nat) : Nat → Nat
  | 0 => 0
  | i + 1 => lowG l i + (l[i]?.getD 0) % 128 * 128 ^ i
theorem lowG_succ {l : List Nat} {i : Nat} (h : i < l.length) : lowG l (i + 1) = lowG l i + l[i] % 128 * 128 ^ i := by
  rw [lowG, List.getElem?_eq_getElem h]; rfl
theorem lowG_lt (l : List Nat) : ∀ i, lowG l i < 128 ^ i
  | 0 => by simp [lowG]
  | i + 1 => by
    rw [lowG, Nat.pow_succ]
    have h1 := lowG_lt l i
    have h2 : (l[i]?.getD 0) % 128 ≤ 127 := by omega
    have h3 := Nat.mul_le_mul_right (128 ^ i) h2
    omega
theorem lowG_cons (x : Nat) (l : List Nat) : ∀ i, lowG (x :: l) (i + 1) = x % 128 + 128 * lowG l i
  | 0 => by simp [lowG]
  | i + 1 => by
    rw [lowG, lowG_cons x l i, lowG]
    simp only [List.getElem?_cons_succ]
    rw [Nat.pow_succ, Nat.mul_add, Nat.add_assoc, Nat.mul_comm (128 ^ i) 128, Nat.mul_left_comm]
/-- Behind bytes that go on. -/
theorem vrd_low : ∀ (i : Nat) (l : List Nat), (∀ j (h : j < l.length), j < i → 128 ≤ l[j] ∧ l[j] < 256) → i ≤ l.length →
    vrd l = match vrd (l.drop i) with
      | none => none
      | some (n, k) => if n = 0 ∧ 0 < i then none else some (lowG l i + 128 ^ i * n, k + i)
  | 0, l, _, _ => by
    rw [List.drop_zero]
    cases vrd l with
    | none => rfl
    | some p => simp [lowG]
  | i + 1, [], _, h => by simp at h
  | i + 1, x :: l, hj, hi => by
    have h0 := hj 0 (by simp) (by omega)
    simp only [List.getElem_cons_zero] at h0
    rw [vrd, if_neg (by omega), List.drop_succ_cons, vrd_low i l (fun j h hlt => by have := hj (j + 1) (by simpa using h) (by omega); simpa using this) (by simpa using hi)]
    cases vrd (l.drop i) with
    | none => rfl
    | some p =>
      obtain ⟨n, k⟩ := p
      simp only []
      by_cases hz : n = 0
      · by_cases hp : 0 < i
        · rw [if_pos ⟨hz, hp⟩, if_pos ⟨hz, Nat.succ_pos i⟩]
        · have : i = 0 := by omega
          subst this
          rw [if_neg (by omega), if_pos ⟨hz, Nat.succ_pos 0⟩]
          simp [lowG, hz]
      · rw [if_neg (fun h => hz h.1), if_neg (fun h => hz h.1)]
        have hp : 0 < 128 ^ i * n := Nat.mul_pos (Nat.pow_pos (by omega)) (by omega)
        simp only []
        rw [if_neg (by omega), lowG_cons, show x % 128 = x - 128 from by omega, Nat.pow_succ, Nat.mul_add, Nat.mul_comm (128 ^ i) 128, Nat.mul_assoc]
        congr 2
        omega
/-- A sum's step. -/
def stepS (h b : Nat) : Nat := (h ^^^ b) * 16777619 % 4294967296
def sumB (l : List Nat) : Nat := l.foldl stepS 2166136261
theorem sumB_snoc (l : List Nat) (b : Nat) : sumB (l ++ [b]) = stepS (sumB l) b := by
  unfold sumB
  rw [List.foldl_append, List.foldl_cons, List.foldl_nil]
theorem stepS_lt (h b : Nat) : stepS h b < 4294967296 := Nat.mod_lt _ (by omega)
theorem foldS_lt : ∀ (l : List Nat) (h : Nat), h < 4294967296 → l.foldl stepS h < 4294967296
  | [], _, hh => hh
  | b :: l, h, _ => foldS_lt l (stepS h b) (stepS_lt h b)
theorem sumB_lt (l : List Nat) : sumB l < 4294967296 := foldS_lt l _ (by decide)
/-- Four bytes, the lowest first. -/
def fourB (n : Nat) : List Nat := [n % 256, n / 256 % 256, n / 65536 % 256, n / 16777216 % 256]
theorem fourB_len (n : Nat) : (fourB n).length = 4 := rfl
theorem fourB_bytes (n : Nat) : ∀ x ∈ fourB n, x < 256 := by
  intro x hx
  simp only [fourB, List.mem_cons, List.not_mem_nil, or_false] at hx
  omega
theorem fourB_inj {a b : Nat} (ha : a < 4294967296) (hb : b < 4294967296) (h : fourB a = fourB b) : a = b := by
  simp only [fourB, List.cons.injEq, and_true] at h
  omega
/-- A byte of the sum's low part. -/
theorem xor_low (n b : Nat) (hb : b < 256) : n ^^^ b = n - n % 256 + (n % 256 ^^^ b) := by
  have h1 : (n ^^^ b) % 256 = n % 256 ^^^ b := by
    have := Nat.xor_mod_two_pow (a := n) (b := b) (n := 8)
    rw [show (2 : Nat) ^ 8 = 256 from rfl] at this
    rw [this, Nat.mod_eq_of_lt hb]
  have h2 : (n ^^^ b) / 256 = n / 256 := by
    have := Nat.xor_div_two_pow (a := n) (b := b) (n := 8)
    rw [show (2 : Nat) ^ 8 = 256 from rfl] at this
    rw [this, Nat.div_eq_of_lt hb, Nat.xor_zero]
  have h3 := Nat.div_add_mod (n ^^^ b) 256
  rw [h1, h2] at h3
  omega
theorem xor_lt32 {n b : Nat} (hn : n < 4294967296) (hb : b < 4294967296) : n ^^^ b < 4294967296 := Nat.xor_lt_two_pow (n := 32) hn hb
theorem stepS_ref {n b : Nat} (hb : b < 256) : (n - n % 256 + (n % 256 ^^^ b)) * 16777619 % 4294967296 = stepS n b := by
  unfold stepS
  rw [xor_low n b hb]
/-- The sum tells bytes apart, and what is ahead. -/
theorem mul_inj_gen (p q k M a b : Nat) (hpq : p * q = 1 + M * k) (ha : a < M) (hb : b < M) (h : a * p % M = b * p % M) : a = b := by
  have h1 : (a * p % M * q) % M = (b * p % M * q) % M := by rw [h]
  rw [Nat.mod_mul_mod, Nat.mod_mul_mod, Nat.mul_assoc, Nat.mul_assoc, hpq, Nat.mul_add, Nat.mul_add, Nat.mul_one, Nat.mul_one, Nat.mul_left_comm, Nat.mul_left_comm b, Nat.add_mul_mod_self_left, Nat.add_mul_mod_self_left, Nat.mod_eq_of_lt ha, Nat.mod_eq_of_lt hb] at h1
  exact h1
theorem mul_inj {a b : Nat} (ha : a < 4294967296) (hb : b < 4294967296) (h : a * 16777619 % 4294967296 = b * 16777619 % 4294967296) : a = b :=
  mul_inj_gen 16777619 899433627 3513497 4294967296 a b (by decide) ha hb h
theorem xor_left {a b c : Nat} (h : a ^^^ c = b ^^^ c) : a = b := by
  have h1 : a ^^^ c ^^^ c = b ^^^ c ^^^ c := by rw [h]
  rwa [Nat.xor_assoc, Nat.xor_assoc, Nat.xor_self, Nat.xor_zero, Nat.xor_zero] at h1
theorem xor_right {a b c : Nat} (h : c ^^^ a = c ^^^ b) : a = b := by
  rw [Nat.xor_comm c, Nat.xor_comm c] at h; exact xor_left h
theorem stepS_left {a b c : Nat} (ha : a < 4294967296) (hb : b < 4294967296) (hc : c < 256) (h : stepS a c = stepS b c) : a = b := by
  unfold stepS at h
  exact xor_left (mul_inj (xor_lt32 ha (by omega)) (xor_lt32 hb (by omega)) h)
theorem stepS_right {a b c : Nat} (ha : a < 256) (hb : b < 256) (hc : c < 4294967296) (h : stepS c a = stepS c b) : a = b := by
  unfold stepS at h
  exact xor_right (mul_inj (xor_lt32 hc (by omega)) (xor_lt32 hc (by omega)) h)
theorem foldS_inj : ∀ (l : List Nat) {a b : Nat}, (∀ x ∈ l, x < 256) → a < 4294967296 → b < 4294967296 → l.foldl stepS a = l.foldl stepS b → a = b
  | [], _, _, _, _, _, h => h
  | x :: l, a, b, hl, ha, hb, h => stepS_left ha hb (hl x (by simp)) (foldS_inj l (fun y hy => hl y (by simp [hy])) (stepS_lt _ _) (stepS_lt _ _) h)
/-- One byte more or less alike: another sum. -/
theorem sumB_turned {l : List Nat} {k y : Nat} (hl : ∀ x ∈ l, x < 256) (hk : k < l.length) (hy : y < 256) (h : sumB (l.set k y) = sumB l) : l[k] = y := by
  have e1 : l = l.take k ++ l[k] :: l.drop (k + 1) := by simp
  have e2 : l.set k y = l.take k ++ y :: l.drop (k + 1) := by rw [List.set_eq_take_append_cons_drop, if_pos hk]
  rw [e2] at h
  have h2 : sumB l = sumB (l.take k ++ l[k] :: l.drop (k + 1)) := congrArg sumB e1
  rw [h2] at h
  unfold sumB at h
  rw [List.foldl_append, List.foldl_append, List.foldl_cons, List.foldl_cons] at h
  have hs : (l.take k).foldl stepS 2166136261 < 4294967296 := foldS_lt _ _ (by decide)
  generalize (l.take k).foldl stepS 2166136261 = s at *
  have h3 := foldS_inj (l.drop (k + 1)) (fun x hx => hl x (List.mem_of_mem_drop hx)) (stepS_lt _ _) (stepS_lt _ _) h
  exact (stepS_right hy (hl _ (List.getElem_mem hk)) hs h3).symm
end Go.Proofs.Ytmhjabodhgacnaa
