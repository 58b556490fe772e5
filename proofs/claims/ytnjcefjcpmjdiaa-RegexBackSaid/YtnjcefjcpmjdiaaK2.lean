/- The walk of RegexBack. -/
import Derived.Test.YtnjcefjcpmjdiaaK0
import Derived.Test.YtnjcefjcpmjdiaaF3
import Derived.Test.YtnjcefjcpmjdiaaF2
import Derived.Test.YtnjcefjcpmjdiaaD9
import Derived.Deep.RegionHeld3
set_option maxRecDepth 100000
namespace Go.Proofs.Ytnjcefjcpmjdiaa
open Go.RowKit

set_option maxHeartbeats 4000000 in
theorem back_law (a : ByteArray) (w : World) : Calls Try.prog 6 #[.string a] w fun e w' => e = .returned (.bool true) ∧ Below w.heap.size w w' := by
  by_cases ha : 60 < a.size
  · go_enter Try.func6, Try.ntmps6
    go_wp2_with (go_at_call 8; (with_reducible refine (awake_any _).mono ?_); rintro e w1 ⟨rfl, hb1⟩)
    go_ret
    exact ⟨rfl, hb1⟩
  · have hal : a.size ≤ 60 := by omega
    go_enter Try.func6, Try.ntmps6
    go_wp2_with (first
      | (go_at_call 8; (with_reducible refine (awake_any _).mono ?_); rintro e w1 ⟨rfl, hb1⟩)
      | (go_at_call 9; (with_reducible refine (make_p a _ hal).mono ?_); rintro e w2 ⟨p, a1, c1, rfl, hk2, hsP, hokP, hb2⟩; have hsp : p.size < 9998 := (by omega); obtain ⟨q, hq⟩ : ∃ q, p.back = q := ⟨_, rfl⟩; have HPB := Lib.hid hq; clear hq)
      | (go_at_call 29; (with_reducible refine (back_q p q HPB.out _ _ (Nat.lt_succ_of_lt hsp) (hk2.below (below_one _ _))).mono ?_); rintro e w4 ⟨a2, c2, rfl, hk4, hb4⟩))
    have hb02 := below_step hb1 hb2
    have hbx := Box.new w2 #[.int .i64 p.op, .int .u64 (wd p.set 0), .int .u64 (wd p.set 1), .int .u64 (wd p.set 2), .int .u64 (wd p.set 3), .int .i64 p.lo, .int .i64 p.hi, .slice a1 p.kids.length c1] rfl
    have hb03 := below_step hb02 (below_one w2 (.cells #[.int .i64 p.op, .int .u64 (wd p.set 0), .int .u64 (wd p.set 1), .int .u64 (wd p.set 2), .int .u64 (wd p.set 3), .int .i64 p.lo, .int .i64 p.hi, .slice a1 p.kids.length c1] 28))
    have hkX := (hk2.below (below_one w2 (.cells #[.int .i64 p.op, .int .u64 (wd p.set 0), .int .u64 (wd p.set 1), .int .u64 (wd p.set 2), .int .u64 (wd p.set 3), .int .i64 p.lo, .int .i64 p.hi, .slice a1 p.kids.length c1] 28))).below hb4
    have hbx4 := hbx.below hb4
    have hb04 := below_step hb03 hb4
    clear hb1 hb2 hk2 hbx hb02 hb03 hb4
    generalize w2.heap.size = b1 at *
    have hby := Box.new w4 #[.int .i64 q.op, .int .u64 (wd q.set 0), .int .u64 (wd q.set 1), .int .u64 (wd q.set 2), .int .u64 (wd q.set 3), .int .i64 q.lo, .int .i64 q.hi, .slice a2 q.kids.length c2] rfl
    have hx := hbx4.alloc (.cells #[.int .i64 q.op, .int .u64 (wd q.set 0), .int .u64 (wd q.set 1), .int .u64 (wd q.set 2), .int .u64 (wd q.set 3), .int .i64 q.lo, .int .i64 q.hi, .slice a2 q.kids.length c2] 28)
    have hb05 := below_step hb04 (below_one w4 (.cells #[.int .i64 q.op, .int .u64 (wd q.set 0), .int .u64 (wd q.set 1), .int .u64 (wd q.set 2), .int .u64 (wd q.set 3), .int .i64 q.lo, .int .i64 q.hi, .slice a2 q.kids.length c2] 28))
    have hkX := hkX.below (below_one w4 (.cells #[.int .i64 q.op, .int .u64 (wd q.set 0), .int .u64 (wd q.set 1), .int .u64 (wd q.set 2), .int .u64 (wd q.set 3), .int .i64 q.lo, .int .i64 q.hi, .slice a2 q.kids.length c2] 28))
    have hkY := hk4.below (below_one w4 (.cells #[.int .i64 q.op, .int .u64 (wd q.set 0), .int .u64 (wd q.set 1), .int .u64 (wd q.set 2), .int .u64 (wd q.set 3), .int .i64 q.lo, .int .i64 q.hi, .slice a2 q.kids.length c2] 28))
    clear hbx4 hb04 hk4
    generalize w4.alloc (.cells #[.int .i64 q.op, .int .u64 (wd q.set 0), .int .u64 (wd q.set 1), .int .u64 (wd q.set 2), .int .u64 (wd q.set 3), .int .i64 q.lo, .int .i64 q.hi, .slice a2 q.kids.length c2] 28) = w5 at *
    generalize w4.heap.size = b2 at *
    have hlx := hx.lt
    have hly := hby.lt
    obtain ⟨p0, p1, p2, p3, p4, p5, p6, p7⟩ := hx.cells
    obtain ⟨r0, r1, r2, r3, r4, r5, r6, r7⟩ := hby.cells
    have hsr := Nat.lt_succ_of_lt hsp
    have q1 := bool_beq p.nul
    have q2 := bool_not_neq p.nul
    have q3 := eq_set_same p.bytes
    go_region_held3 (fun W => W.cell? ⟨b1, 0, none⟩ = some (.int .i64 p.op) ∧ W.cell? ⟨b1, 1, none⟩ = some (.int .u64 (wd p.set 0)) ∧ W.cell? ⟨b1, 2, none⟩ = some (.int .u64 (wd p.set 1)) ∧ W.cell? ⟨b1, 3, none⟩ = some (.int .u64 (wd p.set 2)) ∧ W.cell? ⟨b1, 4, none⟩ = some (.int .u64 (wd p.set 3)) ∧ W.cell? ⟨b1, 5, none⟩ = some (.int .i64 p.lo) ∧ W.cell? ⟨b1, 6, none⟩ = some (.int .i64 p.hi) ∧ W.cell? ⟨b1, 7, none⟩ = some (.slice a1 p.kids.length c1) ∧ W.cell? ⟨b2, 0, none⟩ = some (.int .i64 q.op) ∧ W.cell? ⟨b2, 1, none⟩ = some (.int .u64 (wd q.set 0)) ∧ W.cell? ⟨b2, 2, none⟩ = some (.int .u64 (wd q.set 1)) ∧ W.cell? ⟨b2, 3, none⟩ = some (.int .u64 (wd q.set 2)) ∧ W.cell? ⟨b2, 4, none⟩ = some (.int .u64 (wd q.set 3)) ∧ W.cell? ⟨b2, 5, none⟩ = some (.int .i64 q.lo) ∧ W.cell? ⟨b2, 6, none⟩ = some (.int .i64 q.hi) ∧ W.cell? ⟨b2, 7, none⟩ = some (.slice a2 q.kids.length c2) ∧ Below w5.heap.size w5 W)
      (first | (with_reducible exact s16_keep hlx hly (by assumption) (by assumption)) | (with_reducible exact s16_keep hlx hly (by assumption) (below_one _ _)) | (with_reducible exact s16_start hx hby (Below.refl _ _).drew))
      (first
        | (go_at_call 29; (with_reducible refine (back_r _ _ HPB.out _ _ hsr (hkY.below (s16_below (by assumption)))).mono ?_); rintro e w8 ⟨a8, c8, rfl, hk8, hb8⟩)
        | (go_at_call 10; (with_reducible refine (same_self_p _ _ _ _ hsr hk8 (hkX.below (s16_below (by assumption)))).mono ?_); rintro e w6 ⟨rfl, hb6⟩)
        | (go_at_call 25; first | ((with_reducible refine (size_p _ _ _ hsr (hkX.below (s16_below (by assumption)))).mono ?_); rintro e w6 ⟨rfl, hb6⟩) | ((with_reducible refine (size_b _ _ HPB.out _ _ hsr (hkY.below (s16_below (by assumption)))).mono ?_); rintro e w6 ⟨rfl, hb6⟩))
        | (go_at_call 27; first | ((with_reducible refine (bytes_p _ _ _ hsr (hkX.below (s16_below (by assumption)))).mono ?_); rintro e w6 ⟨rfl, hb6⟩) | ((with_reducible refine (bytes_b _ _ HPB.out _ _ hsr (hkY.below (s16_below (by assumption)))).mono ?_); rintro e w6 ⟨rfl, hb6⟩))
        | (go_at_call 23; first | ((with_reducible refine (null_p p _ _ hsr (hkX.below (s16_below (by assumption)))).mono ?_); rintro e w6 ⟨rfl, hb6⟩) | ((with_reducible refine (null_b _ _ HPB.out _ _ hsr (hkY.below (s16_below (by assumption)))).mono ?_); rintro e w6 ⟨rfl, hb6⟩) | ((with_reducible refine (notnull_p p _ _ hsp hk9).mono ?_); rintro e w6 ⟨rfl, hb6⟩))
        | (go_at_call 31; first | ((with_reducible refine (checkC _ _ _ hsr (hkX.below (s16_below (by assumption)))).mono ?_); rintro e w6 ⟨rfl, hb6⟩) | ((with_reducible refine (check_b _ _ HPB.out _ _ hsr (hkY.below (s16_below (by assumption)))).mono ?_); rintro e w6 ⟨rfl, hb6⟩))
        | (go_at_call 20; (with_reducible refine (not_p _ _ _ hsp (hkX.below (s16_below (by assumption)))).mono ?_); rintro e w9 ⟨a9, c9, rfl, hk9, hb9⟩))
    all_goals
      have hfin := below_step hb05 (s16_below (by assumption))
      go_wp2
      go_ret
      exact ⟨rfl, hfin⟩
end Go.Proofs.Ytnjcefjcpmjdiaa
