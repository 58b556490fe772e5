/- The counting of bits by halves (math/bits.OnesCount64): plain facts, no program. -/
import Derived.Test.YtocllbdfdmpopaaDoorA0
namespace Go.Proofs.YtocllbdfdmpopaaDoor
open Go.RowKit

/-- The number of a row of bytes, the lowest first. -/
def val : List Nat → Nat
  | [] => 0
  | b :: l => b + 256 * val l
theorem and_byte (a b c d : Nat) (hb : b < 256) (hd : d < 256) : (b + 256 * a) &&& (d + 256 * c) = (b &&& d) + 256 * (a &&& c) := by
  have hbd : b &&& d < 256 := Nat.lt_of_le_of_lt Nat.and_le_left hb
  apply Nat.eq_of_testBit_eq
  intro k
  have h (x y : Nat) (hy : y < 256) : (y + 256 * x).testBit k = if k < 8 then y.testBit k else x.testBit (k - 8) := by
    rw [Nat.add_comm]
    exact Nat.testBit_two_pow_mul_add x (i := 8) hy k
  rw [Nat.testBit_and, h _ _ hb, h _ _ hd, h _ _ hbd]
  split <;> rw [Nat.testBit_and]
/-- A mask: n bytes m. -/
def mk (m : Nat) : Nat → Nat
  | 0 => 0
  | n + 1 => m + 256 * mk m n
theorem val_le (m : Nat) : ∀ l : List Nat, (∀ b ∈ l, b ≤ m) → val l ≤ mk m l.length
  | [], _ => by simp [val, mk]
  | b :: l, h => by
    have := h b (by simp)
    have := val_le m l (fun x hx => h x (by simp [hx]))
    simp only [val, List.length_cons, mk]
    omega
theorem val_and (m : Nat) (hm : m < 256) : ∀ l : List Nat, (∀ b ∈ l, b < 256) → val l &&& mk m l.length = val (l.map (· &&& m))
  | [], _ => by simp [val, mk]
  | b :: l, h => by
    simp only [val, List.length_cons, mk, List.map_cons]
    rw [and_byte _ _ _ _ (h b (by simp)) hm, val_and m hm l (fun x hx => h x (by simp [hx]))]
theorem val_div2 : ∀ l : List Nat, (∀ b ∈ l, b < 256) → (val l / 2) &&& mk 85 l.length = val (l.map (fun b => b / 2 &&& 85))
  | [], _ => by simp [val, mk]
  | b :: l, h => by
    have hb := h b (by simp)
    simp only [val, List.length_cons, mk, List.map_cons]
    rw [show (b + 256 * val l) / 2 = (b / 2 + 128 * (val l % 2)) + 256 * (val l / 2) from by omega]
    rw [and_byte _ _ _ _ (by omega) (by omega), val_div2 l (fun x hx => h x (by simp [hx]))]
    congr 1
    have d : ∀ b, b < 256 → ∀ j, j < 2 → (b / 2 + 128 * j) &&& 85 = b / 2 &&& 85 := by decide +kernel
    exact d b hb _ (by omega)
theorem val_div4 : ∀ l : List Nat, (∀ b ∈ l, b < 256) → (val l / 4) &&& mk 51 l.length = val (l.map (fun b => b / 4 &&& 51))
  | [], _ => by simp [val, mk]
  | b :: l, h => by
    have hb := h b (by simp)
    simp only [val, List.length_cons, mk, List.map_cons]
    rw [show (b + 256 * val l) / 4 = (b / 4 + 64 * (val l % 4)) + 256 * (val l / 4) from by omega]
    rw [and_byte _ _ _ _ (by omega) (by omega), val_div4 l (fun x hx => h x (by simp [hx]))]
    congr 1
    have d : ∀ b, b < 256 → ∀ j, j < 4 → (b / 4 + 64 * j) &&& 51 = b / 4 &&& 51 := by decide +kernel
    exact d b hb _ (by omega)
/-- Each half of a byte is at most 4. -/
def Half (b : Nat) : Prop := b % 16 ≤ 4 ∧ b / 16 ≤ 4
theorem val_div16 : ∀ l : List Nat, (∀ b ∈ l, Half b) → (val l / 16 + val l) &&& mk 15 l.length = val (l.map (fun b => (b / 16 + b) % 16))
  | [], _ => by simp [val, mk]
  | b :: l, h => by
    have hb := h b (by simp)
    unfold Half at hb
    have hv : val l % 16 ≤ 4 := by
      cases l with
      | nil => simp [val]
      | cons c l => have := h c (by simp); unfold Half at this; simp only [val]; omega
    simp only [val, List.length_cons, mk, List.map_cons]
    rw [show (b + 256 * val l) / 16 + (b + 256 * val l) = (b / 16 + b + 16 * (val l % 16)) + 256 * (val l / 16 + val l) from by omega]
    rw [and_byte _ _ _ _ (by omega) (by omega), val_div16 l (fun x hx => h x (by simp [hx]))]
    congr 1
    rw [show (15 : Nat) = 2 ^ 4 - 1 from rfl, Nat.and_two_pow_sub_one_eq_mod]
    omega
theorem val_add : ∀ (l : List Nat) (f g : Nat → Nat), val (l.map f) + val (l.map g) = val (l.map (fun b => f b + g b))
  | [], _, _ => by simp [val]
  | b :: l, f, g => by
    have := val_add l f g
    simp only [List.map_cons, val]
    omega
/-- The three halvings of a byte. -/
def h1 (b : Nat) : Nat := (b / 2 &&& 85) + (b &&& 85)
def h2 (b : Nat) : Nat := (b / 4 &&& 51) + (b &&& 51)
def h3 (b : Nat) : Nat := (b / 16 + b) % 16
theorem byte_all : ∀ b, b < 256 → h1 b < 256 ∧ (h2 (h1 b) % 16 ≤ 4 ∧ h2 (h1 b) / 16 ≤ 4) ∧ h3 (h2 (h1 b)) = popT 8 b := by decide +kernel

theorem step1 (l : List Nat) (h : ∀ b ∈ l, b < 256) : (val l / 2 &&& mk 85 l.length) + (val l &&& mk 85 l.length) = val (l.map h1) := by
  rw [val_div2 l h, val_and 85 (by omega) l h, val_add]; rfl
theorem step2 (l : List Nat) (h : ∀ b ∈ l, b < 256) : (val l / 4 &&& mk 51 l.length) + (val l &&& mk 51 l.length) = val (l.map h2) := by
  rw [val_div4 l h, val_and 51 (by omega) l h, val_add]; rfl

/-- The eight bytes of a word. -/
def bs (x : Nat) : List Nat := [x % 256, x / 256 % 256, x / 65536 % 256, x / 16777216 % 256, x / 4294967296 % 256, x / 1099511627776 % 256, x / 281474976710656 % 256, x / 72057594037927936 % 256]
theorem val_bs (x : Nat) (h : x < 18446744073709551616) : val (bs x) = x := by
  simp only [bs, val]; omega
theorem bs_lt (x : Nat) : ∀ b ∈ bs x, b < 256 := by
  intro b hb
  simp only [bs, List.mem_cons, List.not_mem_nil, or_false] at hb
  omega
theorem pop_bs (x : Nat) : popT 64 x = popT 8 (x % 256) + popT 8 (x / 256 % 256) + popT 8 (x / 65536 % 256) + popT 8 (x / 16777216 % 256) + popT 8 (x / 4294967296 % 256) + popT 8 (x / 1099511627776 % 256) + popT 8 (x / 281474976710656 % 256) + popT 8 (x / 72057594037927936 % 256) := by
  have h0 := popT_8 56 x
  have h1 := popT_8 48 (x / 256)
  have h2 := popT_8 40 (x / 256 / 256)
  have h3 := popT_8 32 (x / 256 / 256 / 256)
  have h4 := popT_8 24 (x / 256 / 256 / 256 / 256)
  have h5 := popT_8 16 (x / 256 / 256 / 256 / 256 / 256)
  have h6 := popT_8 8 (x / 256 / 256 / 256 / 256 / 256 / 256)
  have h7 := popT_8 0 (x / 256 / 256 / 256 / 256 / 256 / 256 / 256)
  have z (y : Nat) : popT 0 y = 0 := rfl
  simp only [z, Nat.div_div_eq_div_mul, Nat.reduceMul, Nat.reduceAdd] at h0 h1 h2 h3 h4 h5 h6 h7
  omega
theorem sums (c0 c1 c2 c3 c4 c5 c6 c7 x1 x2 x3 : Nat) (g0 : c0 ≤ 8) (g1 : c1 ≤ 8) (g2 : c2 ≤ 8) (g3 : c3 ≤ 8) (g4 : c4 ≤ 8) (g5 : c5 ≤ 8) (g6 : c6 ≤ 8) (g7 : c7 ≤ 8)
    (x : Nat) (hx : x = c0 + 256 * (c1 + 256 * (c2 + 256 * (c3 + 256 * (c4 + 256 * (c5 + 256 * (c6 + 256 * (c7 + 256 * 0))))))))
    (e1 : x1 = x + x / 256) (e2 : x2 = x1 + x1 / 65536) (e3 : x3 = x2 + x2 / 4294967296) : x1 < 18446744073709551616 ∧ x2 < 18446744073709551616 ∧ x3 < 9223372036854775808 ∧ x3 % 128 = c0 + c1 + c2 + c3 + c4 + c5 + c6 + c7 := by
  have d1 : x / 256 = c1 + 256 * (c2 + 256 * (c3 + 256 * (c4 + 256 * (c5 + 256 * (c6 + 256 * c7))))) := by omega
  have f1 : x1 = (c0 + c1) + 256 * ((c1 + c2) + 256 * ((c2 + c3) + 256 * ((c3 + c4) + 256 * ((c4 + c5) + 256 * ((c5 + c6) + 256 * ((c6 + c7) + 256 * c7)))))) := by omega
  clear d1 e1 hx
  have d2 : x1 / 65536 = (c2 + c3) + 256 * ((c3 + c4) + 256 * ((c4 + c5) + 256 * ((c5 + c6) + 256 * ((c6 + c7) + 256 * c7)))) := by omega
  have f2 : x2 = (c0 + c1 + c2 + c3) + 256 * ((c1 + c2 + c3 + c4) + 256 * ((c2 + c3 + c4 + c5) + 256 * ((c3 + c4 + c5 + c6) + 256 * ((c4 + c5 + c6 + c7) + 256 * ((c5 + c6 + c7) + 256 * ((c6 + c7) + 256 * c7)))))) := by omega
  have b1 : x1 < 18446744073709551616 := by omega
  clear d2 e2 f1
  have d3 : x2 / 4294967296 = (c4 + c5 + c6 + c7) + 256 * ((c5 + c6 + c7) + 256 * ((c6 + c7) + 256 * c7)) := by omega
  have b2 : x2 < 18446744073709551616 := by omega
  have f3 : x3 = (c0 + c1 + c2 + c3 + c4 + c5 + c6 + c7) + 256 * ((c1 + c2 + c3 + c4 + c5 + c6 + c7) + 256 * ((c2 + c3 + c4 + c5 + c6 + c7) + 256 * ((c3 + c4 + c5 + c6 + c7) + 256 * ((c4 + c5 + c6 + c7) + 256 * ((c5 + c6 + c7) + 256 * ((c6 + c7) + 256 * c7)))))) := by omega
  clear d3 e3 f2
  refine ⟨b1, b2, by omega, by omega⟩
end Go.Proofs.YtocllbdfdmpopaaDoor
