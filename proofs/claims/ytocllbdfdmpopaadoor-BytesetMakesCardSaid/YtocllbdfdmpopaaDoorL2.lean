/- The walk of BytesetMakes. -/
import Derived.Test.YtocllbdfdmpopaaDoorW0
set_option maxRecDepth 20000
namespace Go.Proofs.YtocllbdfdmpopaaDoor
open Go.RowKit
set_option maxHeartbeats 1000000 in
theorem makes_any (lo hi : Nat) (t : ByteArray) (hlo : lo < 256) (hhi : hi < 256) (hlen : t.size ≤ maxLen) (w : World) (hT : Tab w) :
    Calls Tryd.prog 4 #[.int .u8 lo, .int .u8 hi, .string t] w fun e w' => e = .returned (.bool true) ∧ Below w.heap.size w w' := by
  have hl := hlen
  unfold maxLen at hl
  by_cases h5 : 500 < t.size
  · go_enter Tryd.func4, Tryd.ntmps4
    go_wp2_with (go_at_call 8; refine (awake_any _ hT).mono ?_; rintro e w1 ⟨rfl, hb1⟩)
    go_ret
    exact ⟨rfl, hb1⟩
  · have q1 := eq_set_same (ofP (rangeP lo hi))
    have q2 := eq_set_same (ofB t.data.toList)
    go_enter Tryd.func4, Tryd.ntmps4
    go_wp2_with (first
      | (go_at_call 8; refine (awake_any _ hT).mono ?_; rintro e w1 ⟨rfl, hb1⟩)
      | (go_at_call 20; refine (range_any lo hi hlo hhi _).mono ?_; rintro e w2 ⟨rfl, hb2⟩)
      | (go_at_call 21; refine (rrange_any lo hi hlo hhi _).mono ?_; rintro e w3 ⟨rfl, hb3⟩)
      | (go_at_call 22; refine (of_any t _ hlen).mono ?_; rintro e w4 ⟨rfl, hb4⟩)
      | (go_at_call 23; refine (rof_any t _ hlen).mono ?_; rintro e w5 ⟨rfl, hb5⟩))
    go_ret
    have a2 := hb1.trans (hb2.mono hb1.size)
    have a3 := a2.trans (hb3.mono a2.size)
    have a4 := a3.trans (hb4.mono a3.size)
    exact ⟨rfl, a4.trans (hb5.mono a4.size)⟩
end Go.Proofs.YtocllbdfdmpopaaDoor
