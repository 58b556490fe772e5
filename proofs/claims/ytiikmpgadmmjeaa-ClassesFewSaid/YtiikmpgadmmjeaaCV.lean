/- What the laws' regions that draw lean on. -/
import Derived.Test.YtiikmpgadmmjeaaCR
import Derived.Test.YtiikmpgadmmjeaaCS
set_option maxRecDepth 100000
namespace Go.Proofs.Ytiikmpgadmmjeaa
open Go.RowKit

theorem Goes.more {P : Program} {md : Region.Mode} {ops : Array Oper} {Q : Exit → Act → World → Prop} {S S2 : World → Prop} {z : Nat} (h : ∀ w, S2 w → S w) : ∀ {n : Nat} {l : Array Bool} {a : Act} {w : World}, Goes P md ops Q S2 z n l a w → Goes P md ops Q S z n l a w
  | 0, _, _, _, g => g
  | _ + 1, _, _, _, g => ⟨g.1, fun j hj => wpOp_mono (fun _ _ k => ⟨fun hn => h _ (k.1 hn), Goes.more h k.2⟩) (g.2 j hj)⟩
theorem part_u8c (f : Nat → Nat) {i : Nat} (hi : i < 256) (w : World) : (part 5 (U8s f) i).run Try.prog w = .ok (.int .u8 (f i : Nat)) w := by
  have h : (isAgg 5).run Try.prog w = .ok false w := by kernel_rfl
  unfold part
  rw [Sem.run_bind, h, Result.andThen_ok]
  simp [u8c_at f hi]
theorem items_u8c (f : Nat → Nat) (w : World) : ∀ (is : List Nat), (∀ i ∈ is, i < 256) → (Op.eqItems 9999 5 1 (U8s f) (U8s f) is).run Try.prog w = .ok true w
  | [], _ => by simp [Op.eqItems]
  | i :: is, h => by
    have hi := h i (by simp)
    have ih := items_u8c f w is fun j hj => h j (by simp [hj])
    have hu : Try.prog.underlying 5 = some (.int .u8) := Try.underlying5
    have ha : (Op.equalIn 9999 5 (.int .u8 (f i : Nat)) (.int .u8 (f i : Nat))).run Try.prog w = .ok (((f i : Nat) : Int) == ((f i : Nat) : Int)) w := run_equalIn_int w 9998 _ _ _ _ _ hu
    rw [beq_self_eq_true] at ha
    simp only [Op.eqItems, Sem.run_bind, Nat.mul_one, part_u8c f hi, Result.andThen_ok, ha]
    simp [ih]
theorem equal_u8c (f : Nat → Nat) (w : World) : (Op.equalIn 10000 24 (.agg (U8s f)) (.agg (U8s f))).run Try.prog w = .ok true w := by
  obtain ⟨i, hi⟩ : ∃ i, Try.prog.info? 5 = some i := info_of_underlying Try.underlying5
  rw [show (10000 : Nat) = 9999 + 1 from rfl, run_equalIn_array w 9999 _ _ Try.underlying24 hi, cellsU8]
  exact items_u8c f w (List.range 256) fun i hi => by simpa using hi
end Go.Proofs.Ytiikmpgadmmjeaa
