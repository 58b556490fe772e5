/- Sets of bytes as bit vectors: plain facts, no program. -/
import GoSem.Claim
import Derived.Below
import Derived.WalkKit
namespace Go.Proofs.Ytplgnbedcjanhaa
open Go.RowKit

/-- Word i of a set. -/
def wd (s : BitVec 256) (i : Nat) : Nat := (s.toNat / 2 ^ (64 * i)) % 2 ^ 64
theorem wd_lt (s : BitVec 256) (i : Nat) : wd s i < 18446744073709551616 := Nat.mod_lt _ (by decide)
theorem wd_testBit (s : BitVec 256) (i k : Nat) : (wd s i).testBit k = (decide (k < 64) && s.getLsbD (64 * i + k)) := by
  unfold wd
  rw [Nat.testBit_mod_two_pow, Nat.testBit_div_two_pow, Nat.add_comm k]
  rfl
theorem bv_ext {s t : BitVec 256} (h : ∀ b, b < 256 → s.getLsbD b = t.getLsbD b) : s = t := BitVec.eq_of_getLsbD_eq (fun b hb => h b hb)
theorem ext_wd {s t : BitVec 256} (h : ∀ i, i < 4 → wd s i = wd t i) : s = t := by
  apply bv_ext
  intro b hb
  have e : 64 * (b / 64) + b % 64 = b := by omega
  have := congrArg (fun n => n.testBit (b % 64)) (h (b / 64) (by omega))
  simp only [wd_testBit, e] at this
  have l : b % 64 < 64 := by omega
  simpa [l] using this
theorem setV_inj {s t : BitVec 256} (h : (((.agg #[.int .u64 (wd (s) 0), .int .u64 (wd (s) 1), .int .u64 (wd (s) 2), .int .u64 (wd (s) 3)])) : Value) = (.agg #[.int .u64 (wd (t) 0), .int .u64 (wd (t) 1), .int .u64 (wd (t) 2), .int .u64 (wd (t) 3)])) : s = t := by
  simp only [Value.agg.injEq, Array.mk.injEq, List.cons.injEq, Value.int.injEq, true_and, and_true] at h
  apply ext_wd
  intro i hi
  match i, hi with
  | 0, _ => have := h.1; omega
  | 1, _ => have := h.2.1; omega
  | 2, _ => have := h.2.2.1; omega
  | 3, _ => have := h.2.2.2; omega
theorem setV_mk (a b c d : Nat) (ha : a < 18446744073709551616) (hb : b < 18446744073709551616) (hc : c < 18446744073709551616) (hd : d < 18446744073709551616) :
    ∃ s : BitVec 256, wd s 0 = a ∧ wd s 1 = b ∧ wd s 2 = c ∧ wd s 3 = d := by
  refine ⟨BitVec.ofNat 256 (a + 2 ^ 64 * (b + 2 ^ 64 * (c + 2 ^ 64 * d))), ?_⟩
  unfold wd
  simp only [BitVec.toNat_ofNat]
  have : a + 2 ^ 64 * (b + 2 ^ 64 * (c + 2 ^ 64 * d)) < 2 ^ 256 := by omega
  rw [Nat.mod_eq_of_lt this]
  refine ⟨?_, ?_, ?_, ?_⟩ <;> omega
theorem cells4 (s : BitVec 256) (i : Nat) (hi : i < 4) : [Value.int IntKind.u64 ↑(wd s 0), Value.int IntKind.u64 ↑(wd s 1), Value.int IntKind.u64 ↑(wd s 2), Value.int IntKind.u64 ↑(wd s 3)][i]? = some (.int .u64 (wd s i)) := by
  match i, hi with
  | 0, _ => rfl
  | 1, _ => rfl
  | 2, _ => rfl
  | 3, _ => rfl

theorem get_twoPow (b c : Nat) (hb : b < 256) : (BitVec.twoPow 256 b).getLsbD c = decide (c = b) := by
  rw [BitVec.getLsbD_twoPow]
  by_cases h : c = b
  · subst h; simp [hb]
  · have : ¬ b = c := fun e => h e.symm
    simp [h, this]
/-- A set with a byte. -/
def put (s : BitVec 256) (b : Nat) : BitVec 256 := s ||| BitVec.twoPow 256 b
theorem get_put (s : BitVec 256) (b c : Nat) (hb : b < 256) : (put s b).getLsbD c = (s.getLsbD c || decide (c = b)) := by
  unfold put
  rw [BitVec.getLsbD_or, get_twoPow _ _ hb]

/-- The bytes below k of which p holds, put in one by one. -/
def upTo (p : Nat → Bool) : Nat → BitVec 256
  | 0 => 0
  | k + 1 => if p k then put (upTo p k) k else upTo p k
theorem get_upTo (p : Nat → Bool) (k b : Nat) (hk : k ≤ 256) : (upTo p k).getLsbD b = (decide (b < k) && p b) := by
  induction k with
  | zero => simp [upTo]
  | succ k ih =>
    rw [upTo]
    split
    · rename_i h
      rw [get_put _ _ _ (by omega), ih (by omega)]
      by_cases e : b = k
      · subst e; simp [h]
      · have : b < k + 1 ↔ b < k := by omega
        simp [e, this]
    · rename_i h
      rw [ih (by omega)]
      by_cases e : b = k
      · subst e; simp [h]
      · have : b < k + 1 ↔ b < k := by omega
        simp [this]
/-- A set by a predicate. -/
def ofP (p : Nat → Bool) : BitVec 256 := upTo p 256
theorem get_ofP (p : Nat → Bool) (b : Nat) (hb : b < 256) : (ofP p).getLsbD b = p b := by
  unfold ofP
  rw [get_upTo _ _ _ (by omega)]
  simp [hb]
theorem ofP_get (s : BitVec 256) : ofP (fun b => s.getLsbD b) = s := bv_ext (fun b hb => get_ofP _ b hb)
theorem ofP_congr {p q : Nat → Bool} (h : ∀ b, b < 256 → p b = q b) : ofP p = ofP q := bv_ext (fun b hb => by rw [get_ofP _ _ hb, get_ofP _ _ hb, h b hb])
theorem wd_or (s t : BitVec 256) (i : Nat) : bits .or .u64 (wd s i : Int) (wd t i : Int) = (wd (s ||| t) i : Int) := by
  rw [u64_or_nat _ _ (wd_lt _ _) (wd_lt _ _)]
  congr 1
  apply Nat.eq_of_testBit_eq
  intro k
  rw [Nat.testBit_or, wd_testBit, wd_testBit, wd_testBit, BitVec.getLsbD_or, Bool.and_or_distrib_left]
theorem wd_and (s t : BitVec 256) (i : Nat) : bits .and .u64 (wd s i : Int) (wd t i : Int) = (wd (s &&& t) i : Int) := by
  rw [u64_and_nat _ _ (wd_lt _ _) (wd_lt _ _)]
  congr 1
  apply Nat.eq_of_testBit_eq
  intro k
  rw [Nat.testBit_and, wd_testBit, wd_testBit, wd_testBit, BitVec.getLsbD_and]
  cases decide (k < 64) <;> simp
theorem u64_max : IntKind.u64.max = ((18446744073709551615 : Nat) : Int) := by decide
theorem wd_not (s : BitVec 256) (i : Nat) (hi : i < 4) : bits .xor .u64 IntKind.u64.max (wd s i : Int) = (wd (~~~s) i : Int) := by
  rw [u64_max, u64_xor_nat _ _ (by omega) (wd_lt _ _)]
  congr 1
  apply Nat.eq_of_testBit_eq
  intro k
  rw [Nat.testBit_xor, wd_testBit, wd_testBit, BitVec.getLsbD_not]
  have e : (18446744073709551615 : Nat) = 2 ^ 64 - 1 := by decide
  rw [e, Nat.testBit_two_pow_sub_one]
  by_cases hk : k < 64
  · have : 64 * i + k < 256 := by omega
    simp [hk, this]
  · simp [hk]
theorem wd_put (s : BitVec 256) (b : Nat) (hb : b < 256) : bits .or .u64 (wd s (b / 64) : Int) (IntKind.u64.wrap (2 ^ (b % 64))) = (wd (put s b) (b / 64) : Int) := by
  have hlt : 2 ^ (b % 64) < 18446744073709551616 := by
    have : 2 ^ (b % 64) < 2 ^ 64 := Nat.pow_lt_pow_right (by decide) (by omega)
    exact this
  have e : IntKind.u64.wrap (2 ^ (b % 64)) = ((2 ^ (b % 64) : Nat) : Int) := by
    rw [IntKind.wrap_u64]
    have : ((2 ^ (b % 64) : Nat) : Int) = (2 : Int) ^ (b % 64) := by simp
    rw [← this]
    generalize 2 ^ (b % 64) = x at hlt
    omega
  rw [e, u64_or_nat _ _ (wd_lt _ _) hlt]
  congr 1
  apply Nat.eq_of_testBit_eq
  intro k
  rw [Nat.testBit_or, wd_testBit, wd_testBit, get_put _ _ _ hb, Nat.testBit_two_pow]
  by_cases hk : k < 64
  · have : (64 * (b / 64) + k = b) ↔ (b % 64 = k) := by omega
    simp [hk, this]
  · have : ¬ b % 64 = k := by omega
    simp [hk, this]
theorem wd_put_ne (s : BitVec 256) (b i : Nat) (hb : b < 256) (h : b / 64 ≠ i) : wd (put s b) i = wd s i := by
  apply Nat.eq_of_testBit_eq
  intro k
  rw [wd_testBit, wd_testBit, get_put _ _ _ hb]
  by_cases hk : k < 64
  · have : ¬ 64 * i + k = b := by omega
    simp [this]
  · simp [hk]
theorem has_bit (s : BitVec 256) (b : Nat) : bits .and .u64 ((wd s (b / 64) : Int) / 2 ^ (b % 64)) 1 = (if s.getLsbD b then 1 else 0) := by
  have e : ((wd s (b / 64) : Int) / 2 ^ (b % 64)) = ((wd s (b / 64) / 2 ^ (b % 64) : Nat) : Int) := by simp
  have l : wd s (b / 64) / 2 ^ (b % 64) < 18446744073709551616 := Nat.lt_of_le_of_lt (Nat.div_le_self _ _) (wd_lt _ _)
  rw [e, show (1 : Int) = ((1 : Nat) : Int) from rfl, u64_and_nat _ _ l (by omega)]
  have t : (wd s (b / 64) / 2 ^ (b % 64) &&& 1) = (if s.getLsbD b then 1 else 0) := by
    rw [Nat.and_one_is_mod]
    have h := wd_testBit s (b / 64) (b % 64)
    have e : 64 * (b / 64) + b % 64 = b := by omega
    rw [e, Nat.testBit_eq_decide_div_mod_eq] at h
    have l : b % 64 < 64 := by omega
    simp only [l, decide_true, Bool.true_and] at h
    by_cases g : wd s (b / 64) / 2 ^ (b % 64) % 2 = 1
    · rw [g] at h ⊢; rw [← h]; rfl
    · have : s.getLsbD b = false := by rw [← h]; simp [g]
      rw [this]; simp; omega
  rw [t]
  cases s.getLsbD b <;> rfl

/-- How many of the first n bits are set. -/
def popT : Nat → Nat → Nat
  | 0, _ => 0
  | n + 1, x => popT n x + (x.testBit n).toNat
theorem popT_low (n x : Nat) : popT (n + 1) x = x % 2 + popT n (x / 2) := by
  induction n with
  | zero => simp [popT, Nat.testBit_zero]; cases Nat.mod_two_eq_zero_or_one x <;> simp [*]
  | succ n ih => rw [popT, ih, popT, Nat.testBit_succ]; omega
theorem popT_8 (n x : Nat) : popT (n + 8) x = popT 8 (x % 256) + popT n (x / 256) := by
  have e : x / 2 / 2 / 2 / 2 / 2 / 2 / 2 / 2 = x / 256 := by omega
  rw [popT_low, popT_low, popT_low, popT_low, popT_low, popT_low, popT_low, popT_low, e]
  rw [popT_low 7, popT_low 6, popT_low 5, popT_low 4, popT_low 3, popT_low 2, popT_low 1, popT_low 0]
  simp only [popT]
  omega
theorem popT_le (n x : Nat) : popT n x ≤ n := by
  induction n with
  | zero => simp [popT]
  | succ n ih => rw [popT]; have : (x.testBit n).toNat ≤ 1 := Bool.toNat_le _; omega
/-- How many bytes below k a set has. -/
def cnt (s : BitVec 256) : Nat → Nat
  | 0 => 0
  | k + 1 => cnt s k + (s.getLsbD k).toNat
theorem cnt_le (s : BitVec 256) (k : Nat) : cnt s k ≤ k := by
  induction k with
  | zero => simp [cnt]
  | succ k ih => rw [cnt]; have : (s.getLsbD k).toNat ≤ 1 := Bool.toNat_le _; omega
theorem cnt_word (s : BitVec 256) (i k : Nat) (hk : k ≤ 64) : cnt s (64 * i + k) = cnt s (64 * i) + popT k (wd s i) := by
  induction k with
  | zero => simp [popT]
  | succ k ih =>
    rw [← Nat.add_assoc, cnt, ih (by omega), popT, wd_testBit]
    have : k < 64 := by omega
    simp [this]; omega
theorem cnt_all (s : BitVec 256) : cnt s 256 = popT 64 (wd s 0) + popT 64 (wd s 1) + popT 64 (wd s 2) + popT 64 (wd s 3) := by
  have h0 := cnt_word s 0 64 (by omega)
  have h1 := cnt_word s 1 64 (by omega)
  have h2 := cnt_word s 2 64 (by omega)
  have h3 := cnt_word s 3 64 (by omega)
  have z : cnt s (64 * 0) = 0 := rfl
  have e1 : 64 * 0 + 64 = 64 * 1 := by omega
  have e2 : 64 * 1 + 64 = 64 * 2 := by omega
  have e3 : 64 * 2 + 64 = 64 * 3 := by omega
  have e4 : 64 * 3 + 64 = 256 := by omega
  rw [e1] at h0; rw [e2] at h1; rw [e3] at h2; rw [e4] at h3
  omega
end Go.Proofs.Ytplgnbedcjanhaa
