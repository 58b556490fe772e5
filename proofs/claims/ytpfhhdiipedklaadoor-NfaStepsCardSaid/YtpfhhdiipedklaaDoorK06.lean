/- Texts that a proof rests on: '==' between arrays: pairs of bytes, and sets. -/
import Derived.Test.YtpfhhdiipedklaaDoorK05
import Derived.ChangeKeysEq
set_option maxRecDepth 20000
namespace Go.Proofs.YtpfhhdiipedklaaDoor
open Go.RowKit

theorem part_u8_0 (a b : Int) (w : World) : (part 5 #[.int .u8 a, .int .u8 b] (0 * 1)).run Tryd.prog w = .ok (.int .u8 a) w := by kernel_rfl
theorem part_u8_1 (a b : Int) (w : World) : (part 5 #[.int .u8 a, .int .u8 b] (1 * 1)).run Tryd.prog w = .ok (.int .u8 b) w := by kernel_rfl
theorem cellsU8 : Tryd.prog.cellsOf 5 = 1 := by kernel_rfl
theorem cellsU64 : Tryd.prog.cellsOf 31 = 1 := by kernel_rfl
theorem infoU8 : ∃ i, Tryd.prog.info? 5 = some i := by
  have : (Tryd.prog.info? 5).isSome = true := by kernel_rfl
  exact Option.isSome_iff_exists.1 this
theorem infoU64 : ∃ i, Tryd.prog.info? 31 = some i := by
  have : (Tryd.prog.info? 31).isSome = true := by kernel_rfl
  exact Option.isSome_iff_exists.1 this
theorem part4_0 (a b c d : Int) (w : World) : (part 31 #[.int .u64 a, .int .u64 b, .int .u64 c, .int .u64 d] (0 * 1)).run Tryd.prog w = .ok (.int .u64 a) w := by kernel_rfl
theorem part4_1 (a b c d : Int) (w : World) : (part 31 #[.int .u64 a, .int .u64 b, .int .u64 c, .int .u64 d] (1 * 1)).run Tryd.prog w = .ok (.int .u64 b) w := by kernel_rfl
theorem part4_2 (a b c d : Int) (w : World) : (part 31 #[.int .u64 a, .int .u64 b, .int .u64 c, .int .u64 d] (2 * 1)).run Tryd.prog w = .ok (.int .u64 c) w := by kernel_rfl
theorem part4_3 (a b c d : Int) (w : World) : (part 31 #[.int .u64 a, .int .u64 b, .int .u64 c, .int .u64 d] (3 * 1)).run Tryd.prog w = .ok (.int .u64 d) w := by kernel_rfl
theorem eq_four (a b c d a' b' c' d' : Int) (w : World) : (Op.equalIn 10000 33 (.agg #[.int .u64 a, .int .u64 b, .int .u64 c, .int .u64 d]) (.agg #[.int .u64 a', .int .u64 b', .int .u64 c', .int .u64 d'])).run Tryd.prog w = .ok (a == a' && (b == b' && (c == c' && d == d'))) w := by
  obtain ⟨i, hi⟩ := infoU64
  rw [show (10000 : Nat) = 9999 + 1 from rfl, run_equalIn_array w 9999 _ _ Tryd.underlying33 hi, cellsU64, show List.range 4 = [0, 1, 2, 3] from rfl]
  simp only [Op.eqItems, Sem.run_bind, part4_0, Result.andThen_ok, run_equalIn_int w 9998 _ _ _ _ _ Tryd.underlying31]
  cases a == a'
  · simp
  · simp only [Bool.not_true, Bool.false_eq_true, if_false, Sem.run_bind, part4_1, Result.andThen_ok, run_equalIn_int w 9998 _ _ _ _ _ Tryd.underlying31]
    cases b == b'
    · simp
    · simp only [Bool.not_true, Bool.false_eq_true, if_false, Sem.run_bind, part4_2, Result.andThen_ok, run_equalIn_int w 9998 _ _ _ _ _ Tryd.underlying31]
      cases c == c'
      · simp
      · simp only [Bool.not_true, Bool.false_eq_true, if_false, Sem.run_bind, part4_3, Result.andThen_ok, run_equalIn_int w 9998 _ _ _ _ _ Tryd.underlying31]
        cases d == d' <;> simp
theorem eq_words (s t : BitVec 256) : ((wd s 0 : Int) == (wd t 0 : Int) && ((wd s 1 : Int) == (wd t 1 : Int) && ((wd s 2 : Int) == (wd t 2 : Int) && (wd s 3 : Int) == (wd t 3 : Int)))) = decide (s = t) := by
  rw [Bool.eq_iff_iff]
  simp only [Bool.and_eq_true, beq_iff_eq, decide_eq_true_eq]
  constructor
  · rintro ⟨h0, h1, h2, h3⟩
    apply ext_wd
    intro i hi
    match i, hi with
    | 0, _ => omega
    | 1, _ => omega
    | 2, _ => omega
    | 3, _ => omega
  · rintro rfl
    simp
/-- '==' between two sets. -/
theorem eq_set (s t : BitVec 256) (w : World) : (Op.equalIn 10000 33 (.agg #[.int .u64 (wd (s) 0), .int .u64 (wd (s) 1), .int .u64 (wd (s) 2), .int .u64 (wd (s) 3)]) (.agg #[.int .u64 (wd (t) 0), .int .u64 (wd (t) 1), .int .u64 (wd (t) 2), .int .u64 (wd (t) 3)])).run Tryd.prog w = .ok (decide (s = t)) w := by
  rw [eq_four, eq_words]
theorem eq_set_same (s : BitVec 256) (w : World) : (Op.equalIn 10000 33 (.agg #[.int .u64 (wd (s) 0), .int .u64 (wd (s) 1), .int .u64 (wd (s) 2), .int .u64 (wd (s) 3)]) (.agg #[.int .u64 (wd (s) 0), .int .u64 (wd (s) 1), .int .u64 (wd (s) 2), .int .u64 (wd (s) 3)])).run Tryd.prog w = .ok true w := by
  rw [eq_set]; simp
/-- '==' against the empty set. -/
theorem eq_zero (s : BitVec 256) (w : World) : (Op.equalIn 10000 33 (.agg #[.int .u64 (wd (s) 0), .int .u64 (wd (s) 1), .int .u64 (wd (s) 2), .int .u64 (wd (s) 3)]) (.agg #[.int .u64 0, .int .u64 0, .int .u64 0, .int .u64 0])).run Tryd.prog w = .ok (decide (s = 0)) w := by
  have := eq_set s 0 w
  rw [wd_zero, wd_zero, wd_zero, wd_zero] at this
  exact this
end Go.Proofs.YtpfhhdiipedklaaDoor
