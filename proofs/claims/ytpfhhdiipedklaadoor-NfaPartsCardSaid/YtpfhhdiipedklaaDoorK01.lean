/- Texts that a proof rests on: Sets of bytes as bit vectors: plain facts, no program. | The counting of bits by halves (math/bits.OnesCount64): plain facts, no program. | One set more, up to a byte: plain facts. -/
import GoSem.Claim
import Derived.Below
import Derived.WalkKit
namespace Go.Proofs.YtpfhhdiipedklaaDoor
open Go.RowKit

/-- Word i of a set. -/
def wd (s : BitVec 256) (i : Nat) : Nat := (s.toNat / 2 ^ (64 * i)) % 2 ^ 64
theorem wd_lt (s : BitVec 256) (i : Nat) : wd s i < 18446744073709551616 := Nat.mod_lt _ (by decide)
theorem wd_testBit (s : BitVec 256) (i k : Nat) : (wd s i).testBit k = (decide (k < 64) && s.getLsbD (64 * i + k)) := by
  unfold wd
  rw [Nat.testBit_mod_two_pow, Nat.testBit_div_two_pow, Nat.add_comm k]
  rfl
theorem bv_ext {s t : BitVec 256} (h : ∀ b, b < 256 → s.getLsbD b = t.getLsbD b) : s = t := BitVec.eq_of_getLsbD_eq (fun b hb => h b hb)
theorem ext_wd {s t : BitVec 256} (h : ∀ i, i < 4 → wd s i = wd t i) : s = t := by
  apply bv_ext
  intro b hb
  have e : 64 * (b / 64) + b % 64 = b := by omega
  have := congrArg (fun n => n.testBit (b % 64)) (h (b / 64) (by omega))
  simp only [wd_testBit, e] at this
  have l : b % 64 < 64 := by omega
  simpa [l] using this
theorem setV_inj {s t : BitVec 256} (h : (((.agg #[.int .u64 (wd (s) 0), .int .u64 (wd (s) 1), .int .u64 (wd (s) 2), .int .u64 (wd (s) 3)])) : Value) = (.agg #[.int .u64 (wd (t) 0), .int .u64 (wd (t) 1), .int .u64 (wd (t) 2), .int .u64 (wd (t) 3)])) : s = t := by
  simp only [Value.agg.injEq, Array.mk.injEq, List.cons.injEq, Value.int.injEq, true_and, and_true] at h
  apply ext_wd
  intro i hi
  match i, hi with
  | 0, _ => have := h.1; omega
  | 1, _ => have := h.2.1; omega
  | 2, _ => have := h.2.2.1; omega
  | 3, _ => have := h.2.2.2; omega
theorem setV_mk (a b c d : Nat) (ha : a < 18446744073709551616) (hb : b < 18446744073709551616) (hc : c < 18446744073709551616) (hd : d < 18446744073709551616) :
    ∃ s : BitVec 256, wd s 0 = a ∧ wd s 1 = b ∧ wd s 2 = c ∧ wd s 3 = d := by
  refine ⟨BitVec.ofNat 256 (a + 2 ^ 64 * (b + 2 ^ 64 * (c + 2 ^ 64 * d))), ?_⟩
  unfold wd
  simp only [BitVec.toNat_ofNat]
  have : a + 2 ^ 64 * (b + 2 ^ 64 * (c + 2 ^ 64 * d)) < 2 ^ 256 := by omega
  rw [Nat.mod_eq_of_lt this]
  refine ⟨?_, ?_, ?_, ?_⟩ <;> omega
theorem cells4 (s : BitVec 256) (i : Nat) (hi : i < 4) : [Value.int IntKind.u64 ↑(wd s 0), Value.int IntKind.u64 ↑(wd s 1), Value.int IntKind.u64 ↑(wd s 2), Value.int IntKind.u64 ↑(wd s 3)][i]? = some (.int .u64 (wd s i)) := by
  match i, hi with
  | 0, _ => rfl
  | 1, _ => rfl
  | 2, _ => rfl
  | 3, _ => rfl

theorem get_twoPow (b c : Nat) (hb : b < 256) : (BitVec.twoPow 256 b).getLsbD c = decide (c = b) := by
  rw [BitVec.getLsbD_twoPow]
  by_cases h : c = b
  · subst h; simp [hb]
  · have : ¬ b = c := fun e => h e.symm
    simp [h, this]
/-- A set with a byte. -/
def put (s : BitVec 256) (b : Nat) : BitVec 256 := s ||| BitVec.twoPow 256 b
theorem get_put (s : BitVec 256) (b c : Nat) (hb : b < 256) : (put s b).getLsbD c = (s.getLsbD c || decide (c = b)) := by
  unfold put
  rw [BitVec.getLsbD_or, get_twoPow _ _ hb]

/-- The bytes below k of which p holds, put in one by one. -/
def upTo (p : Nat → Bool) : Nat → BitVec 256
  | 0 => 0
  | k + 1 => if p k then put (upTo p k) k else upTo p k
theorem get_upTo (p : Nat → Bool) (k b : Nat) (hk : k ≤ 256) : (upTo p k).getLsbD b = (decide (b < k) && p b) := by
  induction k with
  | zero => simp [upTo]
  | succ k ih =>
    rw [upTo]
    split
    · rename_i h
      rw [get_put _ _ _ (by omega), ih (by omega)]
      by_cases e : b = k
      · subst e; simp [h]
      · have : b < k + 1 ↔ b < k := by omega
        simp [e, this]
    · rename_i h
      rw [ih (by omega)]
      by_cases e : b = k
      · subst e; simp [h]
      · have : b < k + 1 ↔ b < k := by omega
        simp [this]
/-- A set by a predicate. -/
def ofP (p : Nat → Bool) : BitVec 256 := upTo p 256
theorem get_ofP (p : Nat → Bool) (b : Nat) (hb : b < 256) : (ofP p).getLsbD b = p b := by
  unfold ofP
  rw [get_upTo _ _ _ (by omega)]
  simp [hb]
theorem ofP_get (s : BitVec 256) : ofP (fun b => s.getLsbD b) = s := bv_ext (fun b hb => get_ofP _ b hb)
theorem ofP_congr {p q : Nat → Bool} (h : ∀ b, b < 256 → p b = q b) : ofP p = ofP q := bv_ext (fun b hb => by rw [get_ofP _ _ hb, get_ofP _ _ hb, h b hb])
theorem wd_or (s t : BitVec 256) (i : Nat) : bits .or .u64 (wd s i : Int) (wd t i : Int) = (wd (s ||| t) i : Int) := by
  rw [u64_or_nat _ _ (wd_lt _ _) (wd_lt _ _)]
  congr 1
  apply Nat.eq_of_testBit_eq
  intro k
  rw [Nat.testBit_or, wd_testBit, wd_testBit, wd_testBit, BitVec.getLsbD_or, Bool.and_or_distrib_left]
theorem wd_and (s t : BitVec 256) (i : Nat) : bits .and .u64 (wd s i : Int) (wd t i : Int) = (wd (s &&& t) i : Int) := by
  rw [u64_and_nat _ _ (wd_lt _ _) (wd_lt _ _)]
  congr 1
  apply Nat.eq_of_testBit_eq
  intro k
  rw [Nat.testBit_and, wd_testBit, wd_testBit, wd_testBit, BitVec.getLsbD_and]
  cases decide (k < 64) <;> simp
theorem u64_max : IntKind.u64.max = ((18446744073709551615 : Nat) : Int) := by decide
theorem wd_not (s : BitVec 256) (i : Nat) (hi : i < 4) : bits .xor .u64 IntKind.u64.max (wd s i : Int) = (wd (~~~s) i : Int) := by
  rw [u64_max, u64_xor_nat _ _ (by omega) (wd_lt _ _)]
  congr 1
  apply Nat.eq_of_testBit_eq
  intro k
  rw [Nat.testBit_xor, wd_testBit, wd_testBit, BitVec.getLsbD_not]
  have e : (18446744073709551615 : Nat) = 2 ^ 64 - 1 := by decide
  rw [e, Nat.testBit_two_pow_sub_one]
  by_cases hk : k < 64
  · have : 64 * i + k < 256 := by omega
    simp [hk, this]
  · simp [hk]
theorem wd_put (s : BitVec 256) (b : Nat) (hb : b < 256) : bits .or .u64 (wd s (b / 64) : Int) (IntKind.u64.wrap (2 ^ (b % 64))) = (wd (put s b) (b / 64) : Int) := by
  have hlt : 2 ^ (b % 64) < 18446744073709551616 := by
    have : 2 ^ (b % 64) < 2 ^ 64 := Nat.pow_lt_pow_right (by decide) (by omega)
    exact this
  have e : IntKind.u64.wrap (2 ^ (b % 64)) = ((2 ^ (b % 64) : Nat) : Int) := by
    rw [IntKind.wrap_u64]
    have : ((2 ^ (b % 64) : Nat) : Int) = (2 : Int) ^ (b % 64) := by simp
    rw [← this]
    generalize 2 ^ (b % 64) = x at hlt
    omega
  rw [e, u64_or_nat _ _ (wd_lt _ _) hlt]
  congr 1
  apply Nat.eq_of_testBit_eq
  intro k
  rw [Nat.testBit_or, wd_testBit, wd_testBit, get_put _ _ _ hb, Nat.testBit_two_pow]
  by_cases hk : k < 64
  · have : (64 * (b / 64) + k = b) ↔ (b % 64 = k) := by omega
    simp [hk, this]
  · have : ¬ b % 64 = k := by omega
    simp [hk, this]
theorem wd_put_ne (s : BitVec 256) (b i : Nat) (hb : b < 256) (h : b / 64 ≠ i) : wd (put s b) i = wd s i := by
  apply Nat.eq_of_testBit_eq
  intro k
  rw [wd_testBit, wd_testBit, get_put _ _ _ hb]
  by_cases hk : k < 64
  · have : ¬ 64 * i + k = b := by omega
    simp [this]
  · simp [hk]
theorem has_bit (s : BitVec 256) (b : Nat) : bits .and .u64 ((wd s (b / 64) : Int) / 2 ^ (b % 64)) 1 = (if s.getLsbD b then 1 else 0) := by
  have e : ((wd s (b / 64) : Int) / 2 ^ (b % 64)) = ((wd s (b / 64) / 2 ^ (b % 64) : Nat) : Int) := by simp
  have l : wd s (b / 64) / 2 ^ (b % 64) < 18446744073709551616 := Nat.lt_of_le_of_lt (Nat.div_le_self _ _) (wd_lt _ _)
  rw [e, show (1 : Int) = ((1 : Nat) : Int) from rfl, u64_and_nat _ _ l (by omega)]
  have t : (wd s (b / 64) / 2 ^ (b % 64) &&& 1) = (if s.getLsbD b then 1 else 0) := by
    rw [Nat.and_one_is_mod]
    have h := wd_testBit s (b / 64) (b % 64)
    have e : 64 * (b / 64) + b % 64 = b := by omega
    rw [e, Nat.testBit_eq_decide_div_mod_eq] at h
    have l : b % 64 < 64 := by omega
    simp only [l, decide_true, Bool.true_and] at h
    by_cases g : wd s (b / 64) / 2 ^ (b % 64) % 2 = 1
    · rw [g] at h ⊢; rw [← h]; rfl
    · have : s.getLsbD b = false := by rw [← h]; simp [g]
      rw [this]; simp; omega
  rw [t]
  cases s.getLsbD b <;> rfl

/-- How many of the first n bits are set. -/
def popT : Nat → Nat → Nat
  | 0, _ => 0
  | n + 1, x => popT n x + (x.testBit n).toNat
theorem popT_low (n x : Nat) : popT (n + 1) x = x % 2 + popT n (x / 2) := by
  induction n with
  | zero => simp [popT, Nat.testBit_zero]; cases Nat.mod_two_eq_zero_or_one x <;> simp [*]
  | succ n ih => rw [popT, ih, popT, Nat.testBit_succ]; omega
theorem popT_8 (n x : Nat) : popT (n + 8) x = popT 8 (x % 256) + popT n (x / 256) := by
  have e : x / 2 / 2 / 2 / 2 / 2 / 2 / 2 / 2 = x / 256 := by omega
  rw [popT_low, popT_low, popT_low, popT_low, popT_low, popT_low, popT_low, popT_low, e]
  rw [popT_low 7, popT_low 6, popT_low 5, popT_low 4, popT_low 3, popT_low 2, popT_low 1, popT_low 0]
  simp only [popT]
  omega
theorem popT_le (n x : Nat) : popT n x ≤ n := by
  induction n with
  | zero => simp [popT]
  | succ n ih => rw [popT]; have : (x.testBit n).toNat ≤ 1 := Bool.toNat_le _; omega
/-- How many bytes below k a set has. -/
def cnt (s : BitVec 256) : Nat → Nat
  | 0 => 0
  | k + 1 => cnt s k + (s.getLsbD k).toNat
theorem cnt_le (s : BitVec 256) (k : Nat) : cnt s k ≤ k := by
  induction k with
  | zero => simp [cnt]
  | succ k ih => rw [cnt]; have : (s.getLsbD k).toNat ≤ 1 := Bool.toNat_le _; omega
theorem cnt_word (s : BitVec 256) (i k : Nat) (hk : k ≤ 64) : cnt s (64 * i + k) = cnt s (64 * i) + popT k (wd s i) := by
  induction k with
  | zero => simp [popT]
  | succ k ih =>
    rw [← Nat.add_assoc, cnt, ih (by omega), popT, wd_testBit]
    have : k < 64 := by omega
    simp [this]; omega
theorem cnt_all (s : BitVec 256) : cnt s 256 = popT 64 (wd s 0) + popT 64 (wd s 1) + popT 64 (wd s 2) + popT 64 (wd s 3) := by
  have h0 := cnt_word s 0 64 (by omega)
  have h1 := cnt_word s 1 64 (by omega)
  have h2 := cnt_word s 2 64 (by omega)
  have h3 := cnt_word s 3 64 (by omega)
  have z : cnt s (64 * 0) = 0 := rfl
  have e1 : 64 * 0 + 64 = 64 * 1 := by omega
  have e2 : 64 * 1 + 64 = 64 * 2 := by omega
  have e3 : 64 * 2 + 64 = 64 * 3 := by omega
  have e4 : 64 * 3 + 64 = 256 := by omega
  rw [e1] at h0; rw [e2] at h1; rw [e3] at h2; rw [e4] at h3
  omega
end Go.Proofs.YtpfhhdiipedklaaDoor
namespace Go.Proofs.YtpfhhdiipedklaaDoor
open Go.RowKit

/-- The number of a row of bytes, the lowest first. -/
def val : List Nat → Nat
  | [] => 0
  | b :: l => b + 256 * val l
theorem and_byte (a b c d : Nat) (hb : b < 256) (hd : d < 256) : (b + 256 * a) &&& (d + 256 * c) = (b &&& d) + 256 * (a &&& c) := by
  have hbd : b &&& d < 256 := Nat.lt_of_le_of_lt Nat.and_le_left hb
  apply Nat.eq_of_testBit_eq
  intro k
  have h (x y : Nat) (hy : y < 256) : (y + 256 * x).testBit k = if k < 8 then y.testBit k else x.testBit (k - 8) := by
    rw [Nat.add_comm]
    exact Nat.testBit_two_pow_mul_add x (i := 8) hy k
  rw [Nat.testBit_and, h _ _ hb, h _ _ hd, h _ _ hbd]
  split <;> rw [Nat.testBit_and]
/-- A mask: n bytes m. -/
def mk (m : Nat) : Nat → Nat
  | 0 => 0
  | n + 1 => m + 256 * mk m n
theorem val_le (m : Nat) : ∀ l : List Nat, (∀ b ∈ l, b ≤ m) → val l ≤ mk m l.length
  | [], _ => by simp [val, mk]
  | b :: l, h => by
    have := h b (by simp)
    have := val_le m l (fun x hx => h x (by simp [hx]))
    simp only [val, List.length_cons, mk]
    omega
theorem val_and (m : Nat) (hm : m < 256) : ∀ l : List Nat, (∀ b ∈ l, b < 256) → val l &&& mk m l.length = val (l.map (· &&& m))
  | [], _ => by simp [val, mk]
  | b :: l, h => by
    simp only [val, List.length_cons, mk, List.map_cons]
    rw [and_byte _ _ _ _ (h b (by simp)) hm, val_and m hm l (fun x hx => h x (by simp [hx]))]
theorem val_div2 : ∀ l : List Nat, (∀ b ∈ l, b < 256) → (val l / 2) &&& mk 85 l.length = val (l.map (fun b => b / 2 &&& 85))
  | [], _ => by simp [val, mk]
  | b :: l, h => by
    have hb := h b (by simp)
    simp only [val, List.length_cons, mk, List.map_cons]
    rw [show (b + 256 * val l) / 2 = (b / 2 + 128 * (val l % 2)) + 256 * (val l / 2) from by omega]
    rw [and_byte _ _ _ _ (by omega) (by omega), val_div2 l (fun x hx => h x (by simp [hx]))]
    congr 1
    have d : ∀ b, b < 256 → ∀ j, j < 2 → (b / 2 + 128 * j) &&& 85 = b / 2 &&& 85 := by decide +kernel
    exact d b hb _ (by omega)
theorem val_div4 : ∀ l : List Nat, (∀ b ∈ l, b < 256) → (val l / 4) &&& mk 51 l.length = val (l.map (fun b => b / 4 &&& 51))
  | [], _ => by simp [val, mk]
  | b :: l, h => by
    have hb := h b (by simp)
    simp only [val, List.length_cons, mk, List.map_cons]
    rw [show (b + 256 * val l) / 4 = (b / 4 + 64 * (val l % 4)) + 256 * (val l / 4) from by omega]
    rw [and_byte _ _ _ _ (by omega) (by omega), val_div4 l (fun x hx => h x (by simp [hx]))]
    congr 1
    have d : ∀ b, b < 256 → ∀ j, j < 4 → (b / 4 + 64 * j) &&& 51 = b / 4 &&& 51 := by decide +kernel
    exact d b hb _ (by omega)
/-- Each half of a byte is at most 4. -/
def Half (b : Nat) : Prop := b % 16 ≤ 4 ∧ b / 16 ≤ 4
theorem val_div16 : ∀ l : List Nat, (∀ b ∈ l, Half b) → (val l / 16 + val l) &&& mk 15 l.length = val (l.map (fun b => (b / 16 + b) % 16))
  | [], _ => by simp [val, mk]
  | b :: l, h => by
    have hb := h b (by simp)
    unfold Half at hb
    have hv : val l % 16 ≤ 4 := by
      cases l with
      | nil => simp [val]
      | cons c l => have := h c (by simp); unfold Half at this; simp only [val]; omega
    simp only [val, List.length_cons, mk, List.map_cons]
    rw [show (b + 256 * val l) / 16 + (b + 256 * val l) = (b / 16 + b + 16 * (val l % 16)) + 256 * (val l / 16 + val l) from by omega]
    rw [and_byte _ _ _ _ (by omega) (by omega), val_div16 l (fun x hx => h x (by simp [hx]))]
    congr 1
    rw [show (15 : Nat) = 2 ^ 4 - 1 from rfl, Nat.and_two_pow_sub_one_eq_mod]
    omega
theorem val_add : ∀ (l : List Nat) (f g : Nat → Nat), val (l.map f) + val (l.map g) = val (l.map (fun b => f b + g b))
  | [], _, _ => by simp [val]
  | b :: l, f, g => by
    have := val_add l f g
    simp only [List.map_cons, val]
    omega
/-- The three halvings of a byte. -/
def h1 (b : Nat) : Nat := (b / 2 &&& 85) + (b &&& 85)
def h2 (b : Nat) : Nat := (b / 4 &&& 51) + (b &&& 51)
def h3 (b : Nat) : Nat := (b / 16 + b) % 16
theorem byte_all : ∀ b, b < 256 → h1 b < 256 ∧ (h2 (h1 b) % 16 ≤ 4 ∧ h2 (h1 b) / 16 ≤ 4) ∧ h3 (h2 (h1 b)) = popT 8 b := by decide +kernel

theorem step1 (l : List Nat) (h : ∀ b ∈ l, b < 256) : (val l / 2 &&& mk 85 l.length) + (val l &&& mk 85 l.length) = val (l.map h1) := by
  rw [val_div2 l h, val_and 85 (by omega) l h, val_add]; rfl
theorem step2 (l : List Nat) (h : ∀ b ∈ l, b < 256) : (val l / 4 &&& mk 51 l.length) + (val l &&& mk 51 l.length) = val (l.map h2) := by
  rw [val_div4 l h, val_and 51 (by omega) l h, val_add]; rfl

/-- The eight bytes of a word. -/
def bs (x : Nat) : List Nat := [x % 256, x / 256 % 256, x / 65536 % 256, x / 16777216 % 256, x / 4294967296 % 256, x / 1099511627776 % 256, x / 281474976710656 % 256, x / 72057594037927936 % 256]
theorem val_bs (x : Nat) (h : x < 18446744073709551616) : val (bs x) = x := by
  simp only [bs, val]; omega
theorem bs_lt (x : Nat) : ∀ b ∈ bs x, b < 256 := by
  intro b hb
  simp only [bs, List.mem_cons, List.not_mem_nil, or_false] at hb
  omega
theorem pop_bs (x : Nat) : popT 64 x = popT 8 (x % 256) + popT 8 (x / 256 % 256) + popT 8 (x / 65536 % 256) + popT 8 (x / 16777216 % 256) + popT 8 (x / 4294967296 % 256) + popT 8 (x / 1099511627776 % 256) + popT 8 (x / 281474976710656 % 256) + popT 8 (x / 72057594037927936 % 256) := by
  have h0 := popT_8 56 x
  have h1 := popT_8 48 (x / 256)
  have h2 := popT_8 40 (x / 256 / 256)
  have h3 := popT_8 32 (x / 256 / 256 / 256)
  have h4 := popT_8 24 (x / 256 / 256 / 256 / 256)
  have h5 := popT_8 16 (x / 256 / 256 / 256 / 256 / 256)
  have h6 := popT_8 8 (x / 256 / 256 / 256 / 256 / 256 / 256)
  have h7 := popT_8 0 (x / 256 / 256 / 256 / 256 / 256 / 256 / 256)
  have z (y : Nat) : popT 0 y = 0 := rfl
  simp only [z, Nat.div_div_eq_div_mul, Nat.reduceMul, Nat.reduceAdd] at h0 h1 h2 h3 h4 h5 h6 h7
  omega
theorem sums (c0 c1 c2 c3 c4 c5 c6 c7 x1 x2 x3 : Nat) (g0 : c0 ≤ 8) (g1 : c1 ≤ 8) (g2 : c2 ≤ 8) (g3 : c3 ≤ 8) (g4 : c4 ≤ 8) (g5 : c5 ≤ 8) (g6 : c6 ≤ 8) (g7 : c7 ≤ 8)
    (x : Nat) (hx : x = c0 + 256 * (c1 + 256 * (c2 + 256 * (c3 + 256 * (c4 + 256 * (c5 + 256 * (c6 + 256 * (c7 + 256 * 0))))))))
    (e1 : x1 = x + x / 256) (e2 : x2 = x1 + x1 / 65536) (e3 : x3 = x2 + x2 / 4294967296) : x1 < 18446744073709551616 ∧ x2 < 18446744073709551616 ∧ x3 < 9223372036854775808 ∧ x3 % 128 = c0 + c1 + c2 + c3 + c4 + c5 + c6 + c7 := by
  have d1 : x / 256 = c1 + 256 * (c2 + 256 * (c3 + 256 * (c4 + 256 * (c5 + 256 * (c6 + 256 * c7))))) := by omega
  have f1 : x1 = (c0 + c1) + 256 * ((c1 + c2) + 256 * ((c2 + c3) + 256 * ((c3 + c4) + 256 * ((c4 + c5) + 256 * ((c5 + c6) + 256 * ((c6 + c7) + 256 * c7)))))) := by omega
  clear d1 e1 hx
  have d2 : x1 / 65536 = (c2 + c3) + 256 * ((c3 + c4) + 256 * ((c4 + c5) + 256 * ((c5 + c6) + 256 * ((c6 + c7) + 256 * c7)))) := by omega
  have f2 : x2 = (c0 + c1 + c2 + c3) + 256 * ((c1 + c2 + c3 + c4) + 256 * ((c2 + c3 + c4 + c5) + 256 * ((c3 + c4 + c5 + c6) + 256 * ((c4 + c5 + c6 + c7) + 256 * ((c5 + c6 + c7) + 256 * ((c6 + c7) + 256 * c7)))))) := by omega
  have b1 : x1 < 18446744073709551616 := by omega
  clear d2 e2 f1
  have d3 : x2 / 4294967296 = (c4 + c5 + c6 + c7) + 256 * ((c5 + c6 + c7) + 256 * ((c6 + c7) + 256 * c7)) := by omega
  have b2 : x2 < 18446744073709551616 := by omega
  have f3 : x3 = (c0 + c1 + c2 + c3 + c4 + c5 + c6 + c7) + 256 * ((c1 + c2 + c3 + c4 + c5 + c6 + c7) + 256 * ((c2 + c3 + c4 + c5 + c6 + c7) + 256 * ((c3 + c4 + c5 + c6 + c7) + 256 * ((c4 + c5 + c6 + c7) + 256 * ((c5 + c6 + c7) + 256 * ((c6 + c7) + 256 * c7)))))) := by omega
  clear d3 e3 f2
  refine ⟨b1, b2, by omega, by omega⟩
end Go.Proofs.YtpfhhdiipedklaaDoor
namespace Go.Proofs.YtpfhhdiipedklaaDoor
/-- One set more, up to a byte. -/
def orTo (u s : BitVec 256) (k : Nat) : BitVec 256 := ofP (fun x => u.getLsbD x || (decide (x < k) && s.getLsbD x))
theorem orTo_zero (u s : BitVec 256) : orTo u s 0 = u := by
  apply bv_ext
  intro x hx
  unfold orTo
  rw [get_ofP _ _ hx]; simp
theorem orTo_end (u s : BitVec 256) : orTo u s 256 = u ||| s := by
  apply bv_ext
  intro x hx
  unfold orTo
  rw [get_ofP _ _ hx, BitVec.getLsbD_or]; simp [hx]
theorem orTo_yes (u s : BitVec 256) (k : Nat) (hk : k < 256) (h : s.getLsbD k = true) : orTo u s (k + 1) = put (orTo u s k) k := by
  apply bv_ext
  intro x hx
  rw [get_put _ _ _ hk]
  unfold orTo
  rw [get_ofP _ _ hx, get_ofP _ _ hx]
  by_cases e : x = k
  · subst e; simp [h]
  · have : x < k + 1 ↔ x < k := by omega
    simp [e, this]
theorem orTo_no (u s : BitVec 256) (k : Nat) (h : s.getLsbD k = false) : orTo u s (k + 1) = orTo u s k := by
  apply bv_ext
  intro x hx
  unfold orTo
  rw [get_ofP _ _ hx, get_ofP _ _ hx]
  by_cases e : x = k
  · subst e; simp [h]
  · have : x < k + 1 ↔ x < k := by omega
    simp [this]
end Go.Proofs.YtpfhhdiipedklaaDoor
