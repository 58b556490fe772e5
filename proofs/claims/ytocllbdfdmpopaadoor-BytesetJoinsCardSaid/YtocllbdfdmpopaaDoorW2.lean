/- Contracts: trailing zeros, First, Count. -/
import Derived.Test.YtocllbdfdmpopaaDoorW1
import Derived.Test.YtocllbdfdmpopaaDoorF
namespace Go.Proofs.YtocllbdfdmpopaaDoor
open Go.RowKit

/-- math/bits.deBruijn64tab lies in its variable. -/
def Tab (w : World) : Prop := 0 < w.heap.size ∧ ∀ j, j < 64 → w.cell? ⟨0, j, none⟩ = some (.int .u8 (Lib.deBruijn64tab.getD j 0))
theorem Tab.below {w w' : World} (h : Tab w) (hb : Below w.heap.size w w') : Tab w' :=
  ⟨Nat.lt_of_lt_of_le h.1 hb.size, fun j hj => by rw [hb.cell (p := ⟨_, j, none⟩) h.1]; exact h.2 j hj⟩
theorem Tab.alloc {w : World} (h : Tab w) (o : Obj) : Tab (w.alloc o) := h.below ((Below.refl _ _).alloc (Nat.le_refl _) _)
theorem Tab.drew {w : World} (h : Tab w) : Tab w.drew := h.below (Below.refl _ _).drew
theorem tz_key (x a : Nat) (hx : x < 18446744073709551616) (hx0 : x ≠ 0) (hlow : x &&& (18446744073709551616 - x) = a) :
    IntKind.u64.wrap (bits BinOp.and IntKind.u64 (x : Int) (IntKind.u64.wrap (-(x : Int))) * 285870213051353865) / 288230376151711744 = ((a * 285870213051353865 % 18446744073709551616 / 288230376151711744 : Nat) : Int) := by
  have e1 : IntKind.u64.wrap (-(x : Int)) = ((18446744073709551616 - x : Nat) : Int) := by rw [IntKind.wrap_u64]; omega
  rw [e1, bits_and_u64_nat x _ hx (by omega), hlow, IntKind.wrap_u64]
  omega
set_option maxHeartbeats 1000000 in
theorem tz_core (x k idx : Nat) (w : World) (hx0 : ((x : Int) == 0) = false)
    (key : IntKind.u64.wrap (bits BinOp.and IntKind.u64 (x : Int) (IntKind.u64.wrap (-(x : Int))) * 285870213051353865) / 288230376151711744 = (idx : Int))
    (hi : idx < 64) (hk : k < 64) (hcell : w.cell? ⟨0, idx, none⟩ = some (.int .u8 k)) :
    Calls Tryd.prog 32 #[.int .u64 x] w fun e w' => e = .returned (.int .i64 k) ∧ w = w' := by
  go_enter Tryd.func32, Tryd.ntmps32
  go_wp2_with (simp only [key])
  go_ret
  exact ⟨rfl, rfl⟩
theorem tz_any (x : Nat) (hx : x < 18446744073709551616) (hx0 : x ≠ 0) (w : World) (hT : Tab w) :
    Calls Tryd.prog 32 #[.int .u64 x] w fun e w' => e = .returned (.int .i64 (Lib.ctz 64 x)) ∧ w = w' := by
  obtain ⟨hlow, hk⟩ := Lib.lowest_bit 64 x hx0 hx
  obtain ⟨hi, htab⟩ := Lib.deBruijn64_at _ hk
  have key := tz_key x _ hx hx0 hlow
  have hc := hT.2 _ hi
  rw [htab] at hc
  exact tz_core x _ _ w (by rw [beq_eq_false_iff_ne]; omega) key hi hk hc

/-- What First hands back. -/
def fstV (r : Nat) : Value := if r < 256 then .tuple #[.int .u8 r, .bool true] else .tuple #[.int .u8 0, .bool false]
theorem fstV_in {r : Nat} (h : r < 256) : fstV r = .tuple #[.int .u8 r, .bool true] := by unfold fstV; rw [if_pos h]
theorem fstV_out {r : Nat} (h : 256 ≤ r) : fstV r = .tuple #[.int .u8 0, .bool false] := by unfold fstV; rw [if_neg (by omega)]
set_option maxRecDepth 20000 in
set_option maxHeartbeats 1000000 in
theorem first_nat (s : BitVec 256) (b : Nat) (f : Int) (hf : (f < 0 ∧ b = 0) ∨ f = b) (hb : b ≤ 9223372036854775807) (w : World) (hT : Tab w) :
    Calls Tryd.prog 9 #[(.agg #[.int .u64 (wd (s) 0), .int .u64 (wd (s) 1), .int .u64 (wd (s) 2), .int .u64 (wd (s) 3)]), .int .i64 f] w fun e w' => e = .returned (fstV (fst s b)) ∧ Below w.heap.size w w' := by
  rcases hf with ⟨hf, rfl⟩ | rfl
  all_goals
    go_enter Tryd.func9, Tryd.ntmps9
    go_wp2
    go_loop [6] (fun i => ∃ k : Nat, k ≤ 9223372036854775807 ∧ i = .int .i64 k ∧ Hid (fst s k = fst s _)) (fun i => 256 - (intOf i).toNat)
    case atStart => exact ⟨_, hb, rfl, rfl⟩
    case round =>
      obtain ⟨k, hk, rfl, HF⟩ := hrel
      by_cases hlt : k < 256
      · have hc := cells4 s (k / 64) (by omega)
        have hx := wd_lt s (k / 64)
        obtain ⟨x, HX, hx64, ex⟩ : ∃ x : Nat, Hid (wd s (k / 64) / 2 ^ (k % 64) = x) ∧ x < 18446744073709551616 ∧ ((wd s (k / 64) : Int) / 2 ^ (k % 64)) = (x : Int) := ⟨_, rfl, Nat.lt_of_le_of_lt (Nat.div_le_self _ _) hx, by simp⟩
        clear hx
        by_cases hx0 : x = 0
        · subst hx0
          go_wp2_with (go_at_call 31; refine (next_any _ hlt _).mono ?_; rintro e w' ⟨rfl, rfl⟩)
          go_round
          case rel => exact ⟨k - k % 64 + 64, by omega, rfl, by rw [← HF.out]; exact (fst_zero s k HX.out).symm⟩
          case measure => simp [intOf]; omega
        · have hne : ((x : Int) != 0) = true := by rw [bne_iff_ne]; omega
          obtain ⟨f1, f2⟩ := fst_ctz s k hlt (by rw [HX.out]; exact hx0)
          rw [HX.out] at f1 f2
          have F1 := Lib.hid f1; clear f1
          generalize hcz : Lib.ctz 64 x = c at f2
          have HC := Lib.hid hcz; clear hcz
          go_wp2_with (go_at_call 32; refine (tz_any x hx64 hx0 _ (hT.alloc _)).mono ?_; rw [HC.out]; rintro e w' ⟨rfl, rfl⟩)
          go_ret2
          refine ⟨?_, (Below.refl _ _).alloc (Nat.le_refl _) _⟩
          rw [← HF.out, F1.out, HC.out, fstV_in f2]
          rfl
      · go_wp2
        go_ret2
        exact ⟨by rw [← HF.out, fst_out (by omega), fstV_out (Nat.le_refl _)]; rfl, (Below.refl _ _).alloc (Nat.le_refl _) _⟩
end Go.Proofs.YtocllbdfdmpopaaDoor
