/- The contract of slices.Max over a row of 256 bytes. -/
import Derived.Test.YtiikmpgadmmjeaaC5
import Derived.Lib.MinMax
set_option maxRecDepth 100000
namespace Go.Proofs.Ytiikmpgadmmjeaa
open Go.RowKit

theorem max_cast (a b : Nat) : max (a : Int) (b : Int) = ((max a b : Nat) : Int) := by omega
set_option maxHeartbeats 2000000 in
theorem max_any (cls : Nat → Nat) (b : Nat) (w : World) (h : UBlk w b cls) :
    Calls Try.prog 25 #[.slice (some ⟨b, 0, none⟩) 256 256] w fun e w' => e = .returned (.int .u8 (mxOf cls 256 : Nat)) ∧ w' = w := by
  have HU := Lib.hid h
  have c0 := h.cell (show 0 < 256 by omega)
  clear h
  have H1 := Lib.hid (show mxOf cls 1 = cls 0 from by show max 0 (cls 0) = _; omega)
  obtain ⟨M, hM⟩ : ∃ M, mxOf cls 256 = M := ⟨_, rfl⟩
  have HM := Lib.hid hM
  rw [hM]
  clear hM
  go_enter Try.func25, Try.ntmps25
  go_wp2
  go_loopw [3, 4] (fun x z wr => ∃ i : Nat, z = .int .i64 i ∧ 1 ≤ i ∧ i ≤ 256 ∧ x = .int .u8 (mxOf cls i : Nat) ∧ wr = w) (fun _ z _ => 256 - (intOf z).toNat)
  case atStart => exact ⟨1, rfl, Nat.le_refl _, by omega, by rw [H1.out], rfl⟩
  case round =>
    clear c0
    obtain ⟨i, rfl, h1, hi, rfl, rfl⟩ := hrel
    by_cases hlt : i < 256
    · have hd : decide ((i : Int) < 256) = true := decide_eq_true (by omega)
      have c0 := HU.out.cell hlt
      have hi256 : (i : Int) < 256 := by omega
      have HN := Lib.hid (show ((mxOf cls (i + 1) : Nat) : Int) = max ((mxOf cls i : Nat) : Int) ((cls i : Nat) : Int) from (max_cast _ _).symm)
      generalize cls i = q at *
      generalize mxOf cls i = p at *
      go_wp2
      exact ⟨⟨i + 1, rfl, by omega, hlt, by rw [HN.out], trivial⟩, by simp only [intOf]; omega⟩
    · obtain rfl : i = 256 := by omega
      have hd : decide (((256 : Nat) : Int) < 256) = false := by simp
      rw [HM.out]
      go_wp2
      go_ret
      exact ⟨rfl, rfl⟩
end Go.Proofs.Ytiikmpgadmmjeaa
