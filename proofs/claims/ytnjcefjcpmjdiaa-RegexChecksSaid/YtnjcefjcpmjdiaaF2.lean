/- The contract of awake. -/
import Derived.Test.YtnjcefjcpmjdiaaF1
import Derived.Deep.RegionHeld3
import Derived.Deep.CutRange
set_option maxRecDepth 100000
namespace Go.Proofs.Ytnjcefjcpmjdiaa
open Go.RowKit

def AwB (b0 : Nat) (a2 : Option Addr) (c2 : Nat) (w0 : World) (v : Value) (W : World) : Prop := ∃ (b1 : Nat) (a3 : Option Addr) (c3 : Nat), v = .pointer (some ⟨b1, 0, none⟩) ∧ Box W b1 #[.int .i64 pB.op, .int .u64 (wd pB.set 0), .int .u64 (wd pB.set 1), .int .u64 (wd pB.set 2), .int .u64 (wd pB.set 3), .int .i64 pB.lo, .int .i64 pB.hi, .slice a3 2 c3] ∧ Box W b0 #[.int .i64 pA.op, .int .u64 (wd pA.set 0), .int .u64 (wd pA.set 1), .int .u64 (wd pA.set 2), .int .u64 (wd pA.set 3), .int .i64 pA.lo, .int .i64 pA.hi, .slice a2 1 c2] ∧ Kids W pA.kids (.slice a2 1 c2) ∧ Kids W pB.kids (.slice a3 2 c3) ∧ Below w0.heap.size w0 W
theorem below_of_drew {w a : World} (h : Below w.drew.heap.size w.drew a) : Below w.heap.size w a := below_step (Below.refl _ _).drew h
theorem below_of_alloc {w a : World} {o : Obj} (h : Below (w.alloc o).drew.heap.size (w.alloc o).drew a) : Below w.heap.size w a := below_step (below_one w o) (below_of_drew h)
theorem box_of_alloc {w a : World} {c : Array Value} (h : Below (w.alloc (.cells c 28)).drew.heap.size (w.alloc (.cells c 28)).drew a) : Box a w.heap.size c := Box.below (w := (w.alloc (.cells c 28)).drew) (Box.new w c rfl) h
theorem aw_end1 {w3 w6 : World} {b0 lo c2 c6 : Nat} {a2 a6 : Option Addr} (hbx : Box w3 b0 #[.int .i64 pA.op, .int .u64 (wd pA.set 0), .int .u64 (wd pA.set 1), .int .u64 (wd pA.set 2), .int .u64 (wd pA.set 3), .int .i64 pA.lo, .int .i64 pA.hi, .slice a2 1 c2]) (hkA : Kids w3 pA.kids (.slice a2 1 c2)) (hb36 : Below w3.heap.size w3 w6) (hk6 : KidsN w6 lo pB.kids (.slice a6 2 c6)) :
    AwB b0 a2 c2 w3 (.pointer (some ⟨w6.heap.size, 0, none⟩)) (w6.alloc (.cells #[.int .i64 pB.op, .int .u64 (wd pB.set 0), .int .u64 (wd pB.set 1), .int .u64 (wd pB.set 2), .int .u64 (wd pB.set 3), .int .i64 pB.lo, .int .i64 pB.hi, .slice a6 2 c6] 28)) :=
  ⟨_, _, _, rfl, Box.new _ _ rfl, hbx.below (below_step hb36 (below_one _ _)), hkA.below (below_step hb36 (below_one _ _)), hk6.kids.below (below_one _ _), below_step hb36 (below_one _ _)⟩
theorem aw_end2 {w3 w6 : World} {b0 b lo c2 c6 : Nat} {a2 a6 : Option Addr} {v0 v1 v2 v3 v4 v5 v6 v7 : Value} (hbx : Box w3 b0 #[.int .i64 pA.op, .int .u64 (wd pA.set 0), .int .u64 (wd pA.set 1), .int .u64 (wd pA.set 2), .int .u64 (wd pA.set 3), .int .i64 pA.lo, .int .i64 pA.hi, .slice a2 1 c2]) (hkA : Kids w3 pA.kids (.slice a2 1 c2)) (hbl : b0 < w3.heap.size) (hb36 : Below w3.heap.size w3 w6) (hk6 : KidsN w6 lo pB.kids (.slice a6 2 c6))
    (hz6 : Box w6 b #[v0, v1, v2, v3, v4, v5, v6, v7]) (h1 : w3.heap.size ≤ b) (h2 : b < lo) :
    AwB b0 a2 c2 w3 (.pointer (some ⟨b, 0, none⟩)) ((((((((w6.setCell ⟨b, 0, none⟩ (.int .i64 pB.op)).setCell ⟨b, 1, none⟩ (.int .u64 (wd pB.set 0))).setCell ⟨b, 2, none⟩ (.int .u64 (wd pB.set 1))).setCell ⟨b, 3, none⟩ (.int .u64 (wd pB.set 2))).setCell ⟨b, 4, none⟩ (.int .u64 (wd pB.set 3))).setCell ⟨b, 5, none⟩ (.int .i64 pB.lo)).setCell ⟨b, 6, none⟩ (.int .i64 pB.hi)).setCell ⟨b, 7, none⟩ (.slice a6 2 c6)) :=
  ⟨_, _, _, rfl, hz6.store _ _ _ _ _ _ _ _, (hbx.below hb36).other8 (by omega) _ _ _ _ _ _ _ _, hkA.below (below_set8 hb36 h1 _ _ _ _ _ _ _ _), (hk6.set8 h2 _ _ _ _ _ _ _ _).kids, below_set8 hb36 h1 _ _ _ _ _ _ _ _⟩
set_option maxHeartbeats 4000000 in
theorem awake_any (w : World) : Calls Try.prog 8 #[] w fun e w' => e = .returned (.bool true) ∧ Below w.heap.size w w' := by
  go_enter Try.func8, Try.ntmps8
  go_wp2_with (first
    | (go_at_call 11; refine (lit_aw _).mono ?_; rintro e w1 ⟨a1, c1, rfl, hk1, hb1⟩)
    | (go_at_call 21; refine (rep_aw _ _ _ hk1).mono ?_; rintro e w2 ⟨a2, c2, rfl, hk2, hb2⟩))
  have hb02 := below_step hb1 hb2
  have hbx : Box (w2.alloc (.cells #[.int .i64 pA.op, .int .u64 (wd pA.set 0), .int .u64 (wd pA.set 1), .int .u64 (wd pA.set 2), .int .u64 (wd pA.set 3), .int .i64 pA.lo, .int .i64 pA.hi, .slice a2 1 c2] 28)) w2.heap.size #[.int .i64 pA.op, .int .u64 (wd pA.set 0), .int .u64 (wd pA.set 1), .int .u64 (wd pA.set 2), .int .u64 (wd pA.set 3), .int .i64 pA.lo, .int .i64 pA.hi, .slice a2 1 c2] := Box.new _ _ rfl
  have hb03 := below_step hb02 (below_one w2 (.cells #[.int .i64 pA.op, .int .u64 (wd pA.set 0), .int .u64 (wd pA.set 1), .int .u64 (wd pA.set 2), .int .u64 (wd pA.set 3), .int .i64 pA.lo, .int .i64 pA.hi, .slice a2 1 c2] 28))
  have hkA := hk2.below (below_one w2 (.cells #[.int .i64 pA.op, .int .u64 (wd pA.set 0), .int .u64 (wd pA.set 1), .int .u64 (wd pA.set 2), .int .u64 (wd pA.set 3), .int .i64 pA.lo, .int .i64 pA.hi, .slice a2 1 c2] 28))
  generalize w2.alloc (.cells #[.int .i64 pA.op, .int .u64 (wd pA.set 0), .int .u64 (wd pA.set 1), .int .u64 (wd pA.set 2), .int .u64 (wd pA.set 3), .int .i64 pA.lo, .int .i64 pA.hi, .slice a2 1 c2] 28) = w3 at *
  generalize w2.heap.size = b0 at *
  clear hb02 hb1 hb2 hk1 hk2
  have hbl := hbx.lt
  go_cut [2] from 3 (fun s2 wx => AwB b0 a2 c2 w3 s2 wx)
  case first =>
    obtain ⟨p0, p1, p2, p3, p4, p5, p6, p7⟩ := hbx.cells
    go_region_with (first
        | (go_at_call 14; refine (set_aw _).mono ?_; rintro e w5 ⟨a5, c5, rfl, hb5⟩; first | (have hb35 : Below w3.heap.size w3 w5 := (by with_reducible exact below_of_drew hb5); have hs35 := hb35.size; have hl5 : b0 < w5.heap.size := Nat.lt_of_lt_of_le hbl hs35; obtain ⟨r0, r1, r2, r3, r4, r5, r6, r7⟩ := (hbx.below hb35).cells) | (have hb35 : Below w3.heap.size w3 w5 := (by with_reducible exact below_of_alloc hb5); have hs35 := hb35.size; have hl5 : b0 < w5.heap.size := Nat.lt_of_lt_of_le hbl hs35; have hz5 : Box w5 w3.heap.size #[.int .i64 0, .int .u64 0, .int .u64 0, .int .u64 0, .int .u64 0, .int .i64 0, .int .i64 0, .slice none 0 0] := box_of_alloc hb5; obtain ⟨r0, r1, r2, r3, r4, r5, r6, r7⟩ := (hbx.below hb35).cells))
        | (go_at_call 16; first
           | ((with_reducible refine (cat_aw a2 a5 c2 c5 w5 _ rfl (hkA.below (below_step hb35 (below_one _ _)))).mono ?_); rintro e w6 ⟨a6, c6, rfl, hk6, hb6⟩; have hb36 := below_step (below_step hb35 (below_one _ _)) hb6; first | (have hz6 := (hz5.alloc (.cells #[.int .i64 pA.op, .int .u64 (wd pA.set 0), .int .u64 (wd pA.set 1), .int .u64 (wd pA.set 2), .int .u64 (wd pA.set 3), .int .i64 pA.lo, .int .i64 pA.hi, .slice a2 1 c2, .int .i64 pS.op, .int .u64 (wd pS.set 0), .int .u64 (wd pS.set 1), .int .u64 (wd pS.set 2), .int .u64 (wd pS.set 3), .int .i64 pS.lo, .int .i64 pS.hi, .slice a5 0 c5] 28)).below hb6; obtain ⟨z0, z1, z2, z3, z4, z5, z6, z7⟩ := hz6.cells; obtain ⟨q0, q1, q2, q3, q4, q5, q6, q7⟩ := hz6.frees) | skip)
           | ((with_reducible refine (cat_aw2 a2 a5 c2 c5 _ w5 _ rfl (hkA.below (below_step (below_step hb35 (below_one _ _)) (below_one _ _)))).mono ?_); rintro e w6 ⟨a6, c6, rfl, hk6, hb6⟩; have hb36 := below_step (below_step (below_step hb35 (below_one _ _)) (below_one _ _)) hb6; have hz6 : Box w6 (w5.heap.size + 1) #[.int .i64 0, .int .u64 0, .int .u64 0, .int .u64 0, .int .u64 0, .int .i64 0, .int .i64 0, .slice none 0 0] := (Box.new (w5.alloc _) _ (World.size_alloc _ _)).below hb6; obtain ⟨z0, z1, z2, z3, z4, z5, z6, z7⟩ := hz6.cells; obtain ⟨q0, q1, q2, q3, q4, q5, q6, q7⟩ := hz6.frees)
           | ((with_reducible refine (cat_aw a2 a5 c2 c5 (w5.alloc _) _ (World.size_alloc _ _) (hkA.below (below_step (below_step hb35 (below_one _ _)) (below_one _ _)))).mono ?_); rintro e w6 ⟨a6, c6, rfl, hk6, hb6⟩; have hb36 := below_step (below_step (below_step hb35 (below_one _ _)) (below_one _ _)) hb6; have hz6 : Box w6 w5.heap.size #[.int .i64 0, .int .u64 0, .int .u64 0, .int .u64 0, .int .u64 0, .int .i64 0, .int .i64 0, .slice none 0 0] := ((Box.new w5 _ rfl).alloc _).below hb6; obtain ⟨z0, z1, z2, z3, z4, z5, z6, z7⟩ := hz6.cells; obtain ⟨q0, q1, q2, q3, q4, q5, q6, q7⟩ := hz6.frees)))
    all_goals
      go_wp2_with fail
      go_meet
      first
        | (with_reducible exact aw_end1 hbx hkA hb36 hk6)
        | (with_reducible exact aw_end2 hbx hkA hbl hb36 hk6 hz6 (by omega) (by omega))
  case rest =>
    clear hkA hbx hbl
    obtain ⟨b1, a3, c3, rfl, hy, hx, hkA, hkB, hb34⟩ := hcut
    have hb04 := below_step hb03 hb34
    clear hb03 hb34
    have hlx := hx.lt
    have hly := hy.lt
    obtain ⟨p0, p1, p2, p3, p4, p5, p6, p7⟩ := hx.cells
    obtain ⟨r0, r1, r2, r3, r4, r5, r6, r7⟩ := hy.cells
    have q1 := eq_set_same s97
    have g0 := fld0
    have g4 := fld4
    go_wp2_with fail
    go_region_held3 (fun W => W.cell? ⟨b0, 0, none⟩ = some (.int .i64 pA.op) ∧ W.cell? ⟨b0, 1, none⟩ = some (.int .u64 (wd pA.set 0)) ∧ W.cell? ⟨b0, 2, none⟩ = some (.int .u64 (wd pA.set 1)) ∧ W.cell? ⟨b0, 3, none⟩ = some (.int .u64 (wd pA.set 2)) ∧ W.cell? ⟨b0, 4, none⟩ = some (.int .u64 (wd pA.set 3)) ∧ W.cell? ⟨b0, 5, none⟩ = some (.int .i64 pA.lo) ∧ W.cell? ⟨b0, 6, none⟩ = some (.int .i64 pA.hi) ∧ W.cell? ⟨b0, 7, none⟩ = some (.slice a2 1 c2) ∧ W.cell? ⟨b1, 0, none⟩ = some (.int .i64 pB.op) ∧ W.cell? ⟨b1, 1, none⟩ = some (.int .u64 (wd pB.set 0)) ∧ W.cell? ⟨b1, 2, none⟩ = some (.int .u64 (wd pB.set 1)) ∧ W.cell? ⟨b1, 3, none⟩ = some (.int .u64 (wd pB.set 2)) ∧ W.cell? ⟨b1, 4, none⟩ = some (.int .u64 (wd pB.set 3)) ∧ W.cell? ⟨b1, 5, none⟩ = some (.int .i64 pB.lo) ∧ W.cell? ⟨b1, 6, none⟩ = some (.int .i64 pB.hi) ∧ W.cell? ⟨b1, 7, none⟩ = some (.slice a3 2 c3) ∧ Below wc.heap.size wc W)
      (first | (with_reducible exact s16_keep hlx hly (by assumption) (by assumption)) | (with_reducible exact s16_keep hlx hly (by assumption) (below_one _ _)) | (with_reducible exact s16_start hx hy (Below.refl _ _).drew))
      (first
        | (go_at_call 23; first | ((with_reducible refine (null_A _ _ (hkA.below (s16_below (by assumption)))).mono ?_); rintro e w5 ⟨rfl, hb5⟩) | ((with_reducible refine (null_N _ _ hk7).mono ?_); rintro e w5 ⟨rfl, hb5⟩))
        | (go_at_call 20; (with_reducible refine (not_A _ _ (hkA.below (s16_below (by assumption)))).mono ?_); rintro e w7 ⟨a7, c7, rfl, hk7, hb7⟩)
        | (go_at_call 25; (with_reducible refine (size_B _ _ (hkB.below (s16_below (by assumption)))).mono ?_); rintro e w5 ⟨rfl, hb5⟩)
        | (go_at_call 29; first | ((with_reducible refine (back_B _ _ (hkB.below (s16_below (by assumption)))).mono ?_); rintro e w8 ⟨a8, c8, rfl, hk8, hb8⟩) | ((with_reducible refine (back_C _ _ hk8).mono ?_); rintro e w9 ⟨a9, c9, rfl, hk9, hb9⟩))
        | (go_at_call 10; first | ((with_reducible refine (same_B _ _ _ hk9 (hkB.below (s16_below (by assumption)))).mono ?_); rintro e w5 ⟨rfl, hb5⟩) | ((with_reducible refine (same_C _ _ _ hk8 (hkB.below (s16_below (by assumption)))).mono ?_); rintro e w5 ⟨rfl, hb5⟩))
        | (go_at_call 31; first | ((with_reducible refine (check_B _ _ (hkB.below (s16_below (by assumption)))).mono ?_); rintro e w5 ⟨rfl, hb5⟩) | ((with_reducible refine (check_R _ _ hk10).mono ?_); rintro e w5 ⟨rfl, hb5⟩))
        | (go_at_call 21; (with_reducible refine (rep_R _ _ (hkA.below (s16_below (by assumption)))).mono ?_); rintro e w10 ⟨a10, c10, rfl, hk10, hb10⟩)
        | (go_at_call 27; (with_reducible refine (bytes_A _ _ (hkA.below (s16_below (by assumption)))).mono ?_); rintro e w5 ⟨rfl, hb5⟩)
        | (go_at_call 34; (with_reducible refine (of_aw _).mono ?_); rintro e w5 ⟨rfl, hb5⟩)
        | (go_at_call 18; (with_reducible refine (alt_aw _ _ _ _ rfl (hkA.below (s16_below (by assumption))) (hkB.below (s16_below (by assumption)))).mono ?_); rintro e w11 ⟨a11, c11, rfl, hb11⟩)
        | (go_at_call 19; (with_reducible refine (and_aw _).mono ?_); rintro e w12 ⟨a12, c12, rfl, hb12⟩))
    all_goals
      have hfin := below_step hb04 (s16_below (by assumption))
      go_wp2
      go_ret
      exact ⟨rfl, hfin⟩
end Go.Proofs.Ytnjcefjcpmjdiaa
