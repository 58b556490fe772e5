/- Contracts of words' forms: letter, digit, run, slash. -/
import Derived.Test.YtplgnbedcjanhaaBb
import Derived.Shelf.RegionOpen
import Derived.RegionTactic
import Derived.Deep.QuietTactic
import Derived.BigQuiet
set_option maxRecDepth 100000
namespace Go.Proofs.Ytplgnbedcjanhaa
open Go.RowKit

theorem get_nat {s : ByteArray} {l : List Nat} (hs : bytesOf s = l) {k : Nat} (h : k < s.size) : ∃ h' : k < l.length, l[k] = s[k].toNat := by
  subst hs
  exact ⟨by rw [bytesOf_len]; exact h, bytesOf_get s k h (by rw [bytesOf_len]; exact h)⟩
theorem eq_yes {x : Nat} {c : Nat} (h : x = c) : ((x : Int) == (c : Int)) = true := by rw [beq_iff_eq]; omega
theorem eq_no {x : Nat} {c : Nat} (h : ¬ x = c) : ((x : Int) == (c : Int)) = false := by rw [beq_eq_false_iff_ne]; omega
theorem letter_any (b : Nat) (w : World) : Calls Try.prog 43 #[.int .u8 b] w fun e w' => e = .returned (.bool (isLet b)) ∧ w' = w := by
  go_enter Try.func43, Try.ntmps43
  go_wp2
  all_goals go_ret
  all_goals refine ⟨ret_bool (b := isLet b) ?_, rfl⟩
  all_goals rw [Bool.eq_iff_iff]
  all_goals unfold isLet
  all_goals simp only [Bool.or_eq_true, Bool.and_eq_true, decide_eq_true_eq, beq_iff_eq, true_iff]
  all_goals omega
theorem digit_any (b : Nat) (w : World) : Calls Try.prog 46 #[.int .u8 b] w fun e w' => e = .returned (.bool (isDig b)) ∧ w' = w := by
  go_enter Try.func46, Try.ntmps46
  go_wp2
  all_goals go_ret
  all_goals refine ⟨ret_bool (b := isDig b) ?_, rfl⟩
  all_goals rw [Bool.eq_iff_iff]
  all_goals unfold isDig
  all_goals simp only [Bool.false_eq_true, false_iff, Bool.and_eq_true, decide_eq_true_eq]
  all_goals omega
theorem nam_any (b : Nat) (w : World) : Calls Try.prog 45 #[.int .u8 b] w fun e w' => e = .returned (.bool (isNam b)) ∧ w' = w := by
  have HL := Lib.hid (fun W => letter_any b W)
  have HD := Lib.hid (fun W => digit_any b W)
  have HN : Hid (isNam b = (isLet b || isDig b)) := Lib.hid rfl
  generalize isNam b = v at *
  generalize isLet b = v1 at *
  generalize isDig b = v2 at *
  cases v1 <;> cases v2 <;> (obtain rfl := HN.out)
  all_goals go_enter Try.func45, Try.ntmps45
  all_goals go_wp2_with (first
    | (go_at_call 43; (with_reducible refine (HL.out _).mono ?_); rintro e w5 ⟨rfl, e5⟩; subst w5)
    | (go_at_call 46; (with_reducible refine (HD.out _).mono ?_); rintro e w5 ⟨rfl, e5⟩; subst w5))
  all_goals go_ret
  all_goals exact ⟨rfl, rfl⟩
theorem cap_yes {m n : Nat} (h : m < n) : capN m n = 0 := by unfold capN; rw [if_pos h]
theorem cap_no {m n : Nat} (h : ¬ m < n) : capN m n = n := by unfold capN; rw [if_neg h]
end Go.Proofs.Ytplgnbedcjanhaa
