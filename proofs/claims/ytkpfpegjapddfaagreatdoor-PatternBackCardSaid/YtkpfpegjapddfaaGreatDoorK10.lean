/- Texts that a proof rests on: Contracts of pattern's bytes: which stand for themselves, digits, letters, escapes. -/
import Derived.Test.YtkpfpegjapddfaaGreatDoorK09
import Derived.Lib.Strings
import Derived.Lib.Slices
import Derived.Lib.Walk
import Derived.Lib.Bytealg
set_option maxRecDepth 20000
namespace Go.Proofs.YtkpfpegjapddfaaGreatDoor
open Go.RowKit

set_option maxHeartbeats 1000000 in
set_option maxRecDepth 100000 in
theorem slIndexByte_any (s : ByteArray) (c : Int) (w : World) :
    Calls Tryz.prog 73 #[.string s, .int .u8 c] w fun e w' => e = .returned (.int .i64 (Lib.indexByte s.data.toList c.toNat.toUInt8)) ∧ w' = w := by
  go_enter Tryz.func73, Tryz.ntmps73
  go_wp2
  rw [run_callFunc_extern Tryz.func86 (by kernel_rfl) (by kernel_rfl) (by kernel_rfl) (e := Extern.BytealgIndexByte.indexByte) (by kernel_rfl), Lib.run_indexByteString]
  simp only [Result.andThen]
  rw [Oper.upon_value]
  go_wp2
  go_ret
  exact ⟨rfl, rfl⟩
set_option maxHeartbeats 1000000 in
theorem indexByte_any (s : ByteArray) (c : Int) (w : World) :
    Calls Tryz.prog 54 #[.string s, .int .u8 c] w fun e w' => e = .returned (.int .i64 (Lib.indexByte s.data.toList c.toNat.toUInt8)) ∧ w' = w := by
  go_enter Tryz.func54, Tryz.ntmps54
  go_wp2_with (go_at_call 73; refine (slIndexByte_any _ _ _).mono ?_; rintro e w' ⟨rfl, rfl⟩)
  go_ret
  exact ⟨rfl, rfl⟩
def printB (b : Nat) : Bool := decide (32 ≤ (b : Int)) && decide ((b : Int) ≤ 126)
def metaL : List UInt8 := [40, 41, 91, 93, 123, 125, 124, 38, 42, 43, 63, 46, 126, 92, 47]
def markL : List UInt8 := [93, 92, 94, 45]
def plainB (b : Nat) : Bool := printB b && decide (Lib.indexByte metaL (UInt8.ofNat b) < 0)
def plainC (b : Nat) : Bool := printB b && decide (Lib.indexByte markL (UInt8.ofNat b) < 0)
def shownC (b : Nat) : Bool := plainC b && !(decide ((b : Int) = 47))
def digB (b : Nat) : Bool := decide (48 ≤ (b : Int)) && decide ((b : Int) ≤ 57)
def letB (b : Nat) : Bool := decide (97 ≤ (b : Int)) && decide ((b : Int) ≤ 122) || decide (65 ≤ (b : Int)) && decide ((b : Int) ≤ 90)
def escB (b : Nat) : Bool := !(decide ((b : Int) = 32)) && printB b && !letB b && !digB b
theorem printable_any (b : Nat) (w : World) : Calls Tryz.prog 53 #[.int .u8 b] w fun e w' => e = .returned (.bool (printB b)) ∧ w' = w := by
  go_enter Tryz.func53, Tryz.ntmps53
  go_wp2
  all_goals go_ret
  all_goals exact ⟨by unfold printB; first | (simp [*]; done) | (simp [*]; omega), rfl⟩
theorem plain_any (b : Nat) (w : World) : Calls Tryz.prog 29 #[.int .u8 b] w fun e w' => e = .returned (.bool (plainB b)) ∧ w' = w := by
  go_enter Tryz.func29, Tryz.ntmps29
  go_wp2_with (first | (go_at_call 53; refine (printable_any _ _).mono ?_; rintro e w' ⟨rfl, rfl⟩) | (go_at_call 54; refine (indexByte_any _ _ _).mono ?_; rintro e w' ⟨rfl, rfl⟩))
  all_goals go_ret
  all_goals exact ⟨by unfold plainB; first | (simp_all [metaL]; done) | (simp_all [metaL]; exact decide_eq_decide.2 Iff.rfl), rfl⟩
theorem plainInClass_any (b : Nat) (w : World) : Calls Tryz.prog 89 #[.int .u8 b] w fun e w' => e = .returned (.bool (plainC b)) ∧ w' = w := by
  go_enter Tryz.func89, Tryz.ntmps89
  go_wp2_with (first | (go_at_call 53; refine (printable_any _ _).mono ?_; rintro e w' ⟨rfl, rfl⟩) | (go_at_call 54; refine (indexByte_any _ _ _).mono ?_; rintro e w' ⟨rfl, rfl⟩))
  all_goals go_ret
  all_goals exact ⟨by unfold plainC; first | (simp_all [markL]; done) | (simp_all [markL]; exact decide_eq_decide.2 Iff.rfl), rfl⟩
theorem shownInClass_any (b : Nat) (w : World) : Calls Tryz.prog 77 #[.int .u8 b] w fun e w' => e = .returned (.bool (shownC b)) ∧ w' = w := by
  go_enter Tryz.func77, Tryz.ntmps77
  go_wp2_with (first | (go_at_call 89; refine (plainInClass_any _ _).mono ?_; rintro e w' ⟨rfl, rfl⟩))
  all_goals go_ret
  all_goals exact ⟨by unfold shownC; first | (simp_all; done) | (simp_all; rfl), rfl⟩
theorem digit_any (b : Nat) (w : World) : Calls Tryz.prog 85 #[.int .u8 b] w fun e w' => e = .returned (.bool (digB b)) ∧ w' = w := by
  go_enter Tryz.func85, Tryz.ntmps85
  go_wp2
  all_goals go_ret
  all_goals exact ⟨by unfold digB; first | (simp [*]; done) | (simp [*]; omega), rfl⟩
theorem letter_any (b : Nat) (w : World) : Calls Tryz.prog 84 #[.int .u8 b] w fun e w' => e = .returned (.bool (letB b)) ∧ w' = w := by
  go_enter Tryz.func84, Tryz.ntmps84
  go_wp2
  all_goals go_ret
  all_goals exact ⟨by unfold letB; first | (simp [*]; done) | (simp [*]; omega), rfl⟩
theorem escapable_any (b : Nat) (w : World) : Calls Tryz.prog 72 #[.int .u8 b] w fun e w' => e = .returned (.bool (escB b)) ∧ w' = w := by
  go_enter Tryz.func72, Tryz.ntmps72
  go_wp2_with (first | (go_at_call 53; refine (printable_any _ _).mono ?_; rintro e w' ⟨rfl, rfl⟩) | (go_at_call 84; refine (letter_any _ _).mono ?_; rintro e w' ⟨rfl, rfl⟩) | (go_at_call 85; refine (digit_any _ _).mono ?_; rintro e w' ⟨rfl, rfl⟩))
  all_goals go_ret
  all_goals exact ⟨by unfold escB; first | (simp_all; done) | (simp_all; rfl), rfl⟩
end Go.Proofs.YtkpfpegjapddfaaGreatDoor
