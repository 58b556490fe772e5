/- The walk of RegexMakes. -/
import Derived.Test.YtnjcefjcpmjdiaaK0
import Derived.Test.YtnjcefjcpmjdiaaF4
import Derived.Test.YtnjcefjcpmjdiaaF3
import Derived.Test.YtnjcefjcpmjdiaaF2
import Derived.Test.YtnjcefjcpmjdiaaD9
import Derived.Deep.RegionHeld3
set_option maxRecDepth 100000
namespace Go.Proofs.Ytnjcefjcpmjdiaa
open Go.RowKit

set_option maxHeartbeats 8000000 in
theorem makes_any (a b : ByteArray) (s : BitVec 256) (w : World) : Calls Try.prog 3 #[.string a, .string b, (.agg #[.int .u64 (wd (s) 0), .int .u64 (wd (s) 1), .int .u64 (wd (s) 2), .int .u64 (wd (s) 3)])] w fun e w' => e = .returned (.bool true) ∧ Below w.heap.size w w' := by
  by_cases ha : 60 < a.size
  · go_enter Try.func3, Try.ntmps3
    go_wp2_with (go_at_call 8; (with_reducible refine (awake_any _).mono ?_); rintro e w1 ⟨rfl, hb1⟩)
    go_ret
    exact ⟨rfl, below_step (below_one w _) hb1⟩
  by_cases hb : 60 < b.size
  · go_enter Try.func3, Try.ntmps3
    go_wp2_with (go_at_call 8; (with_reducible refine (awake_any _).mono ?_); rintro e w1 ⟨rfl, hb1⟩)
    go_ret
    exact ⟨rfl, below_step (below_one w _) hb1⟩
  · have hbl : b.size ≤ 60 := by omega
    have hal : a.size ≤ 60 := by omega
    go_enter Try.func3, Try.ntmps3
    go_wp2_with (first
      | (go_at_call 8; (with_reducible refine (awake_any _).mono ?_); rintro e w1 ⟨rfl, hb1⟩)
      | (go_at_call 9; first | ((with_reducible refine (make_p a _ hal).mono ?_); rintro e w2 ⟨p, a1, c1, rfl, hk2, hsP, hokP, hb2⟩) | ((with_reducible refine (make_p b _ hbl).mono ?_); rintro e w4 ⟨q, a2, c2, rfl, hk4, hsQ, hokQ, hb4⟩; have hxx : Box w4 w2.heap.size #[.int .i64 p.op, .int .u64 (wd p.set 0), .int .u64 (wd p.set 1), .int .u64 (wd p.set 2), .int .u64 (wd p.set 3), .int .i64 p.lo, .int .i64 p.hi, .slice a1 p.kids.length c1] := (Box.new w2 _ rfl).below hb4; obtain ⟨o0, o1, o2, o3, o4, o5, o6, o7⟩ := hxx.cells; have hox := hxx.lt; clear hxx)))
    clear o0 o1 o2 o3 o4 o5 o6 o7 hox
    have hz1 := (SetAt.new w s).grown hb1
    have hb01 := below_step (below_one w (.cells #[.int .u64 (wd s 0), .int .u64 (wd s 1), .int .u64 (wd s 2), .int .u64 (wd s 3)] 24)) hb1
    have hz2 := hz1.grown hb2
    have hb02 := below_step hb01 hb2
    have hbx := Box.new w2 #[.int .i64 p.op, .int .u64 (wd p.set 0), .int .u64 (wd p.set 1), .int .u64 (wd p.set 2), .int .u64 (wd p.set 3), .int .i64 p.lo, .int .i64 p.hi, .slice a1 p.kids.length c1] rfl
    have hz3 := hz2.grown (below_one w2 (.cells #[.int .i64 p.op, .int .u64 (wd p.set 0), .int .u64 (wd p.set 1), .int .u64 (wd p.set 2), .int .u64 (wd p.set 3), .int .i64 p.lo, .int .i64 p.hi, .slice a1 p.kids.length c1] 28))
    have hb03 := below_step hb02 (below_one w2 (.cells #[.int .i64 p.op, .int .u64 (wd p.set 0), .int .u64 (wd p.set 1), .int .u64 (wd p.set 2), .int .u64 (wd p.set 3), .int .i64 p.lo, .int .i64 p.hi, .slice a1 p.kids.length c1] 28))
    have hkX := (hk2.below (below_one w2 (.cells #[.int .i64 p.op, .int .u64 (wd p.set 0), .int .u64 (wd p.set 1), .int .u64 (wd p.set 2), .int .u64 (wd p.set 3), .int .i64 p.lo, .int .i64 p.hi, .slice a1 p.kids.length c1] 28))).below hb4
    have hz4 := hz3.grown hb4
    have hbx4 := hbx.below hb4
    have hb04 := below_step hb03 hb4
    clear hb1 hb2 hk2 hbx hb02 hb03 hb4 hz1 hz2 hz3 hb01
    generalize w2.heap.size = b1 at *
    have hby := Box.new w4 #[.int .i64 q.op, .int .u64 (wd q.set 0), .int .u64 (wd q.set 1), .int .u64 (wd q.set 2), .int .u64 (wd q.set 3), .int .i64 q.lo, .int .i64 q.hi, .slice a2 q.kids.length c2] rfl
    have hx := hbx4.alloc (.cells #[.int .i64 q.op, .int .u64 (wd q.set 0), .int .u64 (wd q.set 1), .int .u64 (wd q.set 2), .int .u64 (wd q.set 3), .int .i64 q.lo, .int .i64 q.hi, .slice a2 q.kids.length c2] 28)
    have hz := hz4.alloc (.cells #[.int .i64 q.op, .int .u64 (wd q.set 0), .int .u64 (wd q.set 1), .int .u64 (wd q.set 2), .int .u64 (wd q.set 3), .int .i64 q.lo, .int .i64 q.hi, .slice a2 q.kids.length c2] 28)
    have hb05 := below_step hb04 (below_one w4 (.cells #[.int .i64 q.op, .int .u64 (wd q.set 0), .int .u64 (wd q.set 1), .int .u64 (wd q.set 2), .int .u64 (wd q.set 3), .int .i64 q.lo, .int .i64 q.hi, .slice a2 q.kids.length c2] 28))
    have hkX := hkX.below (below_one w4 (.cells #[.int .i64 q.op, .int .u64 (wd q.set 0), .int .u64 (wd q.set 1), .int .u64 (wd q.set 2), .int .u64 (wd q.set 3), .int .i64 q.lo, .int .i64 q.hi, .slice a2 q.kids.length c2] 28))
    have hkY := hk4.below (below_one w4 (.cells #[.int .i64 q.op, .int .u64 (wd q.set 0), .int .u64 (wd q.set 1), .int .u64 (wd q.set 2), .int .u64 (wd q.set 3), .int .i64 q.lo, .int .i64 q.hi, .slice a2 q.kids.length c2] 28))
    clear hbx4 hb04 hk4 hz4
    have hxa := hx.alloc (.cells #[.int .i64 p.op, .int .u64 (wd p.set 0), .int .u64 (wd p.set 1), .int .u64 (wd p.set 2), .int .u64 (wd p.set 3), .int .i64 p.lo, .int .i64 p.hi, .slice a1 p.kids.length c1, .int .i64 q.op, .int .u64 (wd q.set 0), .int .u64 (wd q.set 1), .int .u64 (wd q.set 2), .int .u64 (wd q.set 3), .int .i64 q.lo, .int .i64 q.hi, .slice a2 q.kids.length c2] 28)
    have hya := hby.alloc (.cells #[.int .i64 p.op, .int .u64 (wd p.set 0), .int .u64 (wd p.set 1), .int .u64 (wd p.set 2), .int .u64 (wd p.set 3), .int .i64 p.lo, .int .i64 p.hi, .slice a1 p.kids.length c1, .int .i64 q.op, .int .u64 (wd q.set 0), .int .u64 (wd q.set 1), .int .u64 (wd q.set 2), .int .u64 (wd q.set 3), .int .i64 q.lo, .int .i64 q.hi, .slice a2 q.kids.length c2] 28)
    have hza := hz.alloc (.cells #[.int .i64 p.op, .int .u64 (wd p.set 0), .int .u64 (wd p.set 1), .int .u64 (wd p.set 2), .int .u64 (wd p.set 3), .int .i64 p.lo, .int .i64 p.hi, .slice a1 p.kids.length c1, .int .i64 q.op, .int .u64 (wd q.set 0), .int .u64 (wd q.set 1), .int .u64 (wd q.set 2), .int .u64 (wd q.set 3), .int .i64 q.lo, .int .i64 q.hi, .slice a2 q.kids.length c2] 28)
    have hb07 := below_step hb05 (below_one _ (.cells #[.int .i64 p.op, .int .u64 (wd p.set 0), .int .u64 (wd p.set 1), .int .u64 (wd p.set 2), .int .u64 (wd p.set 3), .int .i64 p.lo, .int .i64 p.hi, .slice a1 p.kids.length c1, .int .i64 q.op, .int .u64 (wd q.set 0), .int .u64 (wd q.set 1), .int .u64 (wd q.set 2), .int .u64 (wd q.set 3), .int .i64 q.lo, .int .i64 q.hi, .slice a2 q.kids.length c2] 28))
    have hkX7 := hkX.below (below_one _ (.cells #[.int .i64 p.op, .int .u64 (wd p.set 0), .int .u64 (wd p.set 1), .int .u64 (wd p.set 2), .int .u64 (wd p.set 3), .int .i64 p.lo, .int .i64 p.hi, .slice a1 p.kids.length c1, .int .i64 q.op, .int .u64 (wd q.set 0), .int .u64 (wd q.set 1), .int .u64 (wd q.set 2), .int .u64 (wd q.set 3), .int .i64 q.lo, .int .i64 q.hi, .slice a2 q.kids.length c2] 28))
    have hkY7 := hkY.below (below_one _ (.cells #[.int .i64 p.op, .int .u64 (wd p.set 0), .int .u64 (wd p.set 1), .int .u64 (wd p.set 2), .int .u64 (wd p.set 3), .int .i64 p.lo, .int .i64 p.hi, .slice a1 p.kids.length c1, .int .i64 q.op, .int .u64 (wd q.set 0), .int .u64 (wd q.set 1), .int .u64 (wd q.set 2), .int .u64 (wd q.set 3), .int .i64 q.lo, .int .i64 q.hi, .slice a2 q.kids.length c2] 28))
    have hkT := Kids.two' (World.size_alloc w4 (.cells #[.int .i64 q.op, .int .u64 (wd q.set 0), .int .u64 (wd q.set 1), .int .u64 (wd q.set 2), .int .u64 (wd q.set 3), .int .i64 q.lo, .int .i64 q.hi, .slice a2 q.kids.length c2] 28)) hkX7 hkY7
    have hsp : p.size < 9998 := by omega
    have hs0 : Pat.sizes [] < 9998 := by simp [Pat.sizes]
    have hs1 : Pat.sizes [p] < 9998 := by simp only [Pat.sizes]; omega
    have hs2 : Pat.sizes [p, q] < 9998 := by simp only [Pat.sizes]; omega
    have hsp9 : p.size < 9999 := by omega
    have hsq9 : q.size < 9999 := by omega
    have hsl : (litP a).size < 9999 := by rw [lit_size]; omega
    have hal2 : a.size ≤ 1000 := by omega
    clear hx hby hz hb05 hkX hkY
    generalize (w4.alloc (.cells #[.int .i64 q.op, .int .u64 (wd q.set 0), .int .u64 (wd q.set 1), .int .u64 (wd q.set 2), .int .u64 (wd q.set 3), .int .i64 q.lo, .int .i64 q.hi, .slice a2 q.kids.length c2] 28)).alloc (.cells #[.int .i64 p.op, .int .u64 (wd p.set 0), .int .u64 (wd p.set 1), .int .u64 (wd p.set 2), .int .u64 (wd p.set 3), .int .i64 p.lo, .int .i64 p.hi, .slice a1 p.kids.length c1, .int .i64 q.op, .int .u64 (wd q.set 0), .int .u64 (wd q.set 1), .int .u64 (wd q.set 2), .int .u64 (wd q.set 3), .int .i64 q.lo, .int .i64 q.hi, .slice a2 q.kids.length c2] 28) = w7 at *
    generalize w4.heap.size = b2 at *
    have hlx := hxa.lt
    have hly := hya.lt
    have hlz := hza.lt
    clear hkX
    dsimp only [List.append_eq, List.cons_append, List.nil_append]
    go_region_held3 (fun W => W.cell? ⟨b1, 0, none⟩ = some (.int .i64 p.op) ∧ W.cell? ⟨b1, 1, none⟩ = some (.int .u64 (wd p.set 0)) ∧ W.cell? ⟨b1, 2, none⟩ = some (.int .u64 (wd p.set 1)) ∧ W.cell? ⟨b1, 3, none⟩ = some (.int .u64 (wd p.set 2)) ∧ W.cell? ⟨b1, 4, none⟩ = some (.int .u64 (wd p.set 3)) ∧ W.cell? ⟨b1, 5, none⟩ = some (.int .i64 p.lo) ∧ W.cell? ⟨b1, 6, none⟩ = some (.int .i64 p.hi) ∧ W.cell? ⟨b1, 7, none⟩ = some (.slice a1 p.kids.length c1) ∧ W.cell? ⟨b2, 0, none⟩ = some (.int .i64 q.op) ∧ W.cell? ⟨b2, 1, none⟩ = some (.int .u64 (wd q.set 0)) ∧ W.cell? ⟨b2, 2, none⟩ = some (.int .u64 (wd q.set 1)) ∧ W.cell? ⟨b2, 3, none⟩ = some (.int .u64 (wd q.set 2)) ∧ W.cell? ⟨b2, 4, none⟩ = some (.int .u64 (wd q.set 3)) ∧ W.cell? ⟨b2, 5, none⟩ = some (.int .i64 q.lo) ∧ W.cell? ⟨b2, 6, none⟩ = some (.int .i64 q.hi) ∧ W.cell? ⟨b2, 7, none⟩ = some (.slice a2 q.kids.length c2) ∧ W.cell? ⟨w.heap.size, 0, none⟩ = some (.int .u64 (wd s 0)) ∧ W.cell? ⟨w.heap.size, 1, none⟩ = some (.int .u64 (wd s 1)) ∧ W.cell? ⟨w.heap.size, 2, none⟩ = some (.int .u64 (wd s 2)) ∧ W.cell? ⟨w.heap.size, 3, none⟩ = some (.int .u64 (wd s 3)) ∧ Below w7.heap.size w7 W)
      (first | (with_reducible exact s20_keep hlx hly hlz (by assumption) (by assumption)) | (with_reducible exact s20_keep hlx hly hlz (by assumption) (below_one _ _)) | (with_reducible exact s20_start hxa hya hza (Below.refl _ _).drew))
      (first
        | (go_at_call 11; (with_reducible refine (lit_p a _ hal2).mono ?_); rintro e w6 ⟨a6, c6, rfl, hkL, hb6⟩; first | (replace hkM := hkM.below hb6) | skip)
        | (go_at_call 12; (with_reducible refine (rlit_p a _ hal2).mono ?_); rintro e w6 ⟨a6, c6, rfl, hkM, hb6⟩; first | (replace hkL := hkL.below hb6) | skip)
        | (go_at_call 10; (with_reducible refine (same_self_p (litP a) _ _ _ hsl hkL hkM).mono ?_); rintro e w6 ⟨rfl, hb6⟩)
        | (go_at_call 14; (with_reducible refine (set_p s _).mono ?_); rintro e w6 ⟨a6, c6, rfl, hb6⟩)
        | (go_at_call 15; (with_reducible refine (rset_any s _).mono ?_); rintro e w6 ⟨rfl, hb6⟩)
        | (go_at_call 16; (with_reducible refine (cat_p p q _ _ _ _ rfl hsp9 hsq9 (hkX7.below (s20_below (by assumption))) (hkY7.below (s20_below (by assumption)))).mono ?_); rintro e w6 ⟨a6, c6, rfl, hkC, hb6⟩)
        | (go_at_call 18; (with_reducible refine (alt_p p q _ _ _ _ rfl hsp9 hsq9 (hkX7.below (s20_below (by assumption))) (hkY7.below (s20_below (by assumption)))).mono ?_); rintro e w6 ⟨a6, c6, rfl, hkC, hb6⟩)
        | (go_at_call 19; (with_reducible refine (and_p p q _ _ _ _ rfl hsp9 hsq9 (hkX7.below (s20_below (by assumption))) (hkY7.below (s20_below (by assumption)))).mono ?_); rintro e w6 ⟨a6, c6, rfl, hkC, hb6⟩)
        | (go_at_call 20; (with_reducible refine (not_p p _ _ hsp (hkX7.below (s20_below (by assumption)))).mono ?_); rintro e w6 ⟨a6, c6, rfl, hkC, hb6⟩)
        | (go_at_call 17; first | ((with_reducible refine (rmany_two _ _ 2 2 [p, q] _).mono ?_); rintro e w6 ⟨rfl, hb6⟩; first | (replace hkC := hkC.below hb6) | skip) | ((with_reducible refine (rmany_two _ _ 1 2 [p] _).mono ?_); rintro e w6 ⟨rfl, hb6⟩; first | (replace hkC := hkC.below hb6) | skip))
        | (go_at_call 21; (with_reducible refine (rep_p p _ _ _ _ hsp (hkX7.below (s20_below (by assumption)))).mono ?_); rintro e w6 ⟨a6, c6, rfl, hkC, hb6⟩; first | (replace hkD := hkD.below hb6) | skip)
        | (go_at_call 22; (with_reducible refine (rrep_p p _ _ _ _ (hkX7.below (s20_below (by assumption)))).mono ?_); rintro e w6 ⟨a6, c6, rfl, hkD, hb6⟩; first | (replace hkC := hkC.below hb6) | skip)
        | (go_at_call 13; first
           | ((with_reducible refine (rsame_self_p (litP a) _ _ _ hsl hkL hkM).mono ?_); rintro e w6 ⟨rfl, hb6⟩)
           | ((with_reducible refine (rsame_mk 0 s 0 0 [] _ _ _ hs0 (Kids.nil _ _ _) (Kids.nil _ _ _)).mono ?_); rintro e w6 ⟨rfl, hb6⟩)
           | ((with_reducible refine (rsame_mk _ _ _ _ [p, q] _ _ _ hs2 hkC (hkT.below (s20_below (by assumption)))).mono ?_); rintro e w6 ⟨rfl, hb6⟩)
           | ((with_reducible refine (rsame_mk 5 _ _ _ [p] _ _ _ hs1 hkC (hkT.first.below (s20_below (by assumption)))).mono ?_); rintro e w6 ⟨rfl, hb6⟩)
           | ((with_reducible refine (rsame_mk 3 _ _ _ [p] _ _ _ hs1 hkC hkD).mono ?_); rintro e w6 ⟨rfl, hb6⟩)))
    all_goals
      have hfin := below_step hb07 (s20_below (by assumption))
      go_wp2
      go_ret
      exact ⟨rfl, hfin⟩
end Go.Proofs.Ytnjcefjcpmjdiaa
