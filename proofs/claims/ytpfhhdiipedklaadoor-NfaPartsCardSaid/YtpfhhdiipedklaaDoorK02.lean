/- Texts that a proof rests on: Contracts of the leaves: math/bits and single bytes. | Contracts: trailing zeros, First, Count. -/
import Derived.Test.YtpfhhdiipedklaaDoorRows
import Derived.Test.YtpfhhdiipedklaaDoorK01
import Derived.WalkSpells
import Derived.WalkLawsBesides
import Derived.LoopN
import Derived.Lib.TrailingZeros
import Derived.Lib.Hide
import Derived.Test.YtpfhhdiipedklaaDoorK03
namespace Go.Proofs.YtpfhhdiipedklaaDoor
open Go.RowKit

theorem u64_sum (a b : Nat) (h : a + b < 18446744073709551616) : IntKind.u64.wrap ((a : Int) + (b : Int)) = ((a + b : Nat) : Int) := by
  rw [IntKind.wrap_u64]; omega
theorem u64_masks (x k m : Nat) (hx : x < 18446744073709551616) (hm : m < 18446744073709551616) : bits .and .u64 ((x : Int) / (k : Int)) (m : Int) = ((x / k &&& m : Nat) : Int) := by
  have : ((x : Int) / (k : Int)) = ((x / k : Nat) : Int) := by simp
  rw [this]
  exact u64_and_nat _ _ (Nat.lt_of_le_of_lt (Nat.div_le_self _ _) hx) hm
theorem u64_sdiv (y k : Nat) (h : y + y / k < 18446744073709551616) : IntKind.u64.wrap ((y : Int) + (y : Int) / (k : Int)) = ((y + y / k : Nat) : Int) := by
  rw [← Int.natCast_ediv]; exact u64_sum _ _ h
theorem u64_divs (y k : Nat) (h : y / k + y < 18446744073709551616) : IntKind.u64.wrap ((y : Int) / (k : Int) + (y : Int)) = ((y / k + y : Nat) : Int) := by
  rw [← Int.natCast_ediv]; exact u64_sum _ _ h
set_option maxHeartbeats 400000 in
theorem oc_math (x : Nat) (hx : x < 18446744073709551616) : ∃ x1 x2 x3 x4 x5 x6 : Nat,
    x1 < 18446744073709551616 ∧ x2 < 18446744073709551616 ∧ x3 < 18446744073709551616 ∧ x6 < 9223372036854775808 ∧
    IntKind.u64.wrap (bits .and .u64 (↑x / 2) 6148914691236517205 + bits .and .u64 (↑x) 6148914691236517205) = (x1 : Int) ∧
    IntKind.u64.wrap (bits .and .u64 (↑x1 / 4) 3689348814741910323 + bits .and .u64 (↑x1) 3689348814741910323) = (x2 : Int) ∧
    bits .and .u64 (IntKind.u64.wrap (↑x2 / 16 + ↑x2)) 1085102592571150095 = (x3 : Int) ∧
    IntKind.u64.wrap (↑x3 + ↑x3 / 256) = (x4 : Int) ∧ IntKind.u64.wrap (↑x4 + ↑x4 / 65536) = (x5 : Int) ∧ IntKind.u64.wrap (↑x5 + ↑x5 / 4294967296) = (x6 : Int) ∧
    x6 % 128 = popT 64 x := by
  have hv := val_bs x hx
  have hb := bs_lt x
  have s1 := step1 (bs x) hb
  have b1 : ∀ c ∈ (bs x).map h1, c < 256 := by
    intro c hc
    obtain ⟨b, hbm, rfl⟩ := List.mem_map.1 hc
    exact (byte_all b (hb b hbm)).1
  have s2 := step2 ((bs x).map h1) b1
  have b2 : ∀ c ∈ ((bs x).map h1).map h2, Half c := by
    intro c hc
    obtain ⟨d, hd, rfl⟩ := List.mem_map.1 hc
    obtain ⟨b, hbm, rfl⟩ := List.mem_map.1 hd
    exact (byte_all b (hb b hbm)).2.1
  have s3 := val_div16 (((bs x).map h1).map h2) b2
  have l1 : val ((bs x).map h1) < 18446744073709551616 := by
    have := val_le 255 _ (fun c hc => Nat.le_of_lt_succ (b1 c hc))
    rw [show mk 255 ((bs x).map h1).length = 18446744073709551615 from by show mk 255 8 = _; decide +kernel] at this
    omega
  have l2 : val (((bs x).map h1).map h2) ≤ 4919131752989213764 := by
    have := val_le 68 (((bs x).map h1).map h2) (fun c hc => by have := b2 c hc; unfold Half at this; omega)
    rw [show mk 68 (((bs x).map h1).map h2).length = 4919131752989213764 from by show mk 68 8 = _; decide +kernel] at this
    exact this
  have m1 : mk 85 (bs x).length = 6148914691236517205 := by show mk 85 8 = _; decide +kernel
  have m2 : mk 51 ((bs x).map h1).length = 3689348814741910323 := by show mk 51 8 = _; decide +kernel
  have m3 : mk 15 (((bs x).map h1).map h2).length = 1085102592571150095 := by show mk 15 8 = _; decide +kernel
  rw [hv, m1] at s1
  rw [m2] at s2
  rw [m3] at s3
  have v3 : val ((((bs x).map h1).map h2).map (fun b => (b / 16 + b) % 16)) = popT 8 (x % 256) + 256 * (popT 8 (x / 256 % 256) + 256 * (popT 8 (x / 65536 % 256) + 256 * (popT 8 (x / 16777216 % 256) + 256 * (popT 8 (x / 4294967296 % 256) + 256 * (popT 8 (x / 1099511627776 % 256) + 256 * (popT 8 (x / 281474976710656 % 256) + 256 * (popT 8 (x / 72057594037927936 % 256) + 256 * 0))))))) := by
    have e : ∀ b ∈ bs x, (h2 (h1 b) / 16 + h2 (h1 b)) % 16 = popT 8 b := fun b hbm => (byte_all b (hb b hbm)).2.2
    rw [List.map_map, List.map_map]
    have : (bs x).map (((fun b => (b / 16 + b) % 16) ∘ h2) ∘ h1) = (bs x).map (popT 8) := List.map_congr_left e
    rw [this]
    simp only [bs, List.map_cons, List.map_nil, val]
  generalize val ((bs x).map h1) = x1 at *
  generalize val (((bs x).map h1).map h2) = x2 at *
  generalize val ((((bs x).map h1).map h2).map (fun b => (b / 16 + b) % 16)) = x3 at *
  have hp := pop_bs x
  have g (y : Nat) : popT 8 y ≤ 8 := popT_le 8 y
  obtain ⟨q1, q2, q3, q4⟩ := sums _ _ _ _ _ _ _ _ (x3 + x3 / 256) ((x3 + x3 / 256) + (x3 + x3 / 256) / 65536) (((x3 + x3 / 256) + (x3 + x3 / 256) / 65536) + ((x3 + x3 / 256) + (x3 + x3 / 256) / 65536) / 4294967296) (g _) (g _) (g _) (g _) (g _) (g _) (g _) (g _) x3 v3 rfl rfl rfl
  refine ⟨x1, x2, x3, x3 + x3 / 256, (x3 + x3 / 256) + (x3 + x3 / 256) / 65536, ((x3 + x3 / 256) + (x3 + x3 / 256) / 65536) + ((x3 + x3 / 256) + (x3 + x3 / 256) / 65536) / 4294967296, l1, by omega, by omega, q3, ?_, ?_, ?_, ?_, ?_, ?_, ?_⟩
  · have a := u64_masks x 2 6148914691236517205 hx (by omega)
    have b := u64_and_nat x 6148914691236517205 hx (by omega)
    simp only [Int.cast_ofNat_Int] at a b
    have := u64_sum (x / 2 &&& 6148914691236517205) (x &&& 6148914691236517205) (by omega)
    rw [s1] at this; rw [a, b, this]
  · have a := u64_masks x1 4 3689348814741910323 l1 (by omega)
    have b := u64_and_nat x1 3689348814741910323 l1 (by omega)
    simp only [Int.cast_ofNat_Int] at a b
    have := u64_sum (x1 / 4 &&& 3689348814741910323) (x1 &&& 3689348814741910323) (by omega)
    rw [s2] at this; rw [a, b, this]
  · have := u64_divs x2 16 (by clear hp v3 s1 s2 s3 q1 q2 q3 q4; omega)
    have c := u64_and_nat (x2 / 16 + x2) 1085102592571150095 (by clear hp v3 s1 s2 s3 q1 q2 q3 q4; omega) (by decide)
    simp only [Int.cast_ofNat_Int] at c this
    rw [this, c, s3]
  · have := u64_sdiv x3 256 q1
    simp only [Int.cast_ofNat_Int] at this
    exact this
  · have := u64_sdiv (x3 + x3 / 256) 65536 q2
    simp only [Int.cast_ofNat_Int] at this
    exact this
  · have := u64_sdiv ((x3 + x3 / 256) + (x3 + x3 / 256) / 65536) 4294967296 (Nat.lt_trans q3 (by decide))
    simp only [Int.cast_ofNat_Int] at this
    exact this
  · rw [q4, hp]
theorem i64_127 (x : Nat) (h : x < 9223372036854775808) : bits .and .i64 (wrap64 (x : Int)) 127 = ((x % 128 : Nat) : Int) := by
  rw [IntWalk.wrap64_in _ ⟨by omega, by omega⟩]
  have := bits_mask .i64 63 (by decide) (fun n h0 h1 => by rw [IntKind.wrap_i64]; omega) 7 (by decide) (x : Int) (by omega) (by omega)
  rw [show (127 : Int) = 2 ^ 7 - 1 from by decide, this]
  omega
theorem ret_bool {a b : Bool} (h : a = b) : Ending.returned (.bool a) = .returned (.bool b) := by rw [h]
set_option maxHeartbeats 400000 in
theorem has_any (s : BitVec 256) (b : Nat) (hb : b < 256) (w : World) :
    Calls Tryd.prog 58 #[(.agg #[.int .u64 (wd (s) 0), .int .u64 (wd (s) 1), .int .u64 (wd (s) 2), .int .u64 (wd (s) 3)]), .int .u8 b] w fun e w' => e = .returned (.bool (s.getLsbD b)) ∧ Below w.heap.size w w' := by
  have hc := cells4 s (b / 64) (by omega)
  go_enter Tryd.func58, Tryd.ntmps58
  go_wp2
  go_ret
  exact ⟨ret_bool (by rw [has_bit]; cases s.getLsbD b <;> rfl), (Below.refl _ _).alloc (Nat.le_refl _) _⟩
set_option maxHeartbeats 400000 in
theorem rhas_any (s : BitVec 256) (b : Nat) (hb : b < 256) (w : World) :
    Calls Tryd.prog 33 #[(.agg #[.int .u64 (wd (s) 0), .int .u64 (wd (s) 1), .int .u64 (wd (s) 2), .int .u64 (wd (s) 3)]), .int .u8 b] w fun e w' => e = .returned (.bool (s.getLsbD b)) ∧ Below w.heap.size w w' := by
  have hc := cells4 s (b / 64) (by omega)
  go_enter Tryd.func33, Tryd.ntmps33
  go_wp2
  go_ret
  exact ⟨ret_bool (by rw [has_bit]; cases s.getLsbD b <;> rfl), (Below.refl _ _).alloc (Nat.le_refl _) _⟩
theorem ix0 (a b c d : Value) (w : World) : (Instr.index 33 (.agg #[a, b, c, d]) (.int .i64 0)).run Tryd.prog w = .ok a w := by kernel_rfl
theorem ix1 (a b c d : Value) (w : World) : (Instr.index 33 (.agg #[a, b, c, d]) (.int .i64 1)).run Tryd.prog w = .ok b w := by kernel_rfl
theorem ix2 (a b c d : Value) (w : World) : (Instr.index 33 (.agg #[a, b, c, d]) (.int .i64 2)).run Tryd.prog w = .ok c w := by kernel_rfl
theorem ix3 (a b c d : Value) (w : World) : (Instr.index 33 (.agg #[a, b, c, d]) (.int .i64 3)).run Tryd.prog w = .ok d w := by kernel_rfl
end Go.Proofs.YtpfhhdiipedklaaDoor
namespace Go.Proofs.YtpfhhdiipedklaaDoor
open Go.RowKit

/-- math/bits.deBruijn64tab lies in its variable. -/
def Tab (w : World) : Prop := 0 < w.heap.size ∧ ∀ j, j < 64 → w.cell? ⟨0, j, none⟩ = some (.int .u8 (Lib.deBruijn64tab.getD j 0))
theorem Tab.below {w w' : World} (h : Tab w) (hb : Below w.heap.size w w') : Tab w' :=
  ⟨Nat.lt_of_lt_of_le h.1 hb.size, fun j hj => by rw [hb.cell (p := ⟨_, j, none⟩) h.1]; exact h.2 j hj⟩
theorem Tab.alloc {w : World} (h : Tab w) (o : Obj) : Tab (w.alloc o) := h.below ((Below.refl _ _).alloc (Nat.le_refl _) _)
theorem Tab.drew {w : World} (h : Tab w) : Tab w.drew := h.below (Below.refl _ _).drew
theorem tz_key (x a : Nat) (hx : x < 18446744073709551616) (hx0 : x ≠ 0) (hlow : x &&& (18446744073709551616 - x) = a) :
    IntKind.u64.wrap (bits BinOp.and IntKind.u64 (x : Int) (IntKind.u64.wrap (-(x : Int))) * 285870213051353865) / 288230376151711744 = ((a * 285870213051353865 % 18446744073709551616 / 288230376151711744 : Nat) : Int) := by
  have e1 : IntKind.u64.wrap (-(x : Int)) = ((18446744073709551616 - x : Nat) : Int) := by rw [IntKind.wrap_u64]; omega
  rw [e1, bits_and_u64_nat x _ hx (by omega), hlow, IntKind.wrap_u64]
  omega
set_option maxHeartbeats 1000000 in
theorem tz_core (x k idx : Nat) (w : World) (hx0 : ((x : Int) == 0) = false)
    (key : IntKind.u64.wrap (bits BinOp.and IntKind.u64 (x : Int) (IntKind.u64.wrap (-(x : Int))) * 285870213051353865) / 288230376151711744 = (idx : Int))
    (hi : idx < 64) (hk : k < 64) (hcell : w.cell? ⟨0, idx, none⟩ = some (.int .u8 k)) :
    Calls Tryd.prog 68 #[.int .u64 x] w fun e w' => e = .returned (.int .i64 k) ∧ w = w' := by
  go_enter Tryd.func68, Tryd.ntmps68
  go_wp2_with (simp only [key])
  go_ret
  exact ⟨rfl, rfl⟩
theorem tz_any (x : Nat) (hx : x < 18446744073709551616) (hx0 : x ≠ 0) (w : World) (hT : Tab w) :
    Calls Tryd.prog 68 #[.int .u64 x] w fun e w' => e = .returned (.int .i64 (Lib.ctz 64 x)) ∧ w = w' := by
  obtain ⟨hlow, hk⟩ := Lib.lowest_bit 64 x hx0 hx
  obtain ⟨hi, htab⟩ := Lib.deBruijn64_at _ hk
  have key := tz_key x _ hx hx0 hlow
  have hc := hT.2 _ hi
  rw [htab] at hc
  exact tz_core x _ _ w (by rw [beq_eq_false_iff_ne]; omega) key hi hk hc

/-- What First hands back. -/
def fstV (r : Nat) : Value := if r < 256 then .tuple #[.int .u8 r, .bool true] else .tuple #[.int .u8 0, .bool false]
theorem fstV_in {r : Nat} (h : r < 256) : fstV r = .tuple #[.int .u8 r, .bool true] := by unfold fstV; rw [if_pos h]
theorem fstV_out {r : Nat} (h : 256 ≤ r) : fstV r = .tuple #[.int .u8 0, .bool false] := by unfold fstV; rw [if_neg (by omega)]
end Go.Proofs.YtpfhhdiipedklaaDoor
