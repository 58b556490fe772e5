/- A region of RegexJoins: the union of two patterns' bytes, in whatever order it is carried out. -/
import Derived.Test.YtnjcefjcpmjdiaaF4
import Derived.Test.YtnjcefjcpmjdiaaR0
set_option maxRecDepth 20000
namespace Go.Proofs.Ytnjcefjcpmjdiaa
open Go.RowKit

theorem runion_pair2 (x y : BitVec 256) (o : Obj) (w : World) (n : Nat) (hn : w.heap.size = n) :
    Calls Try.prog 33 #[.slice (some ⟨n, 0, none⟩) 2 2] ((w.alloc (.cells #[.int .u64 (wd x 0), .int .u64 (wd x 1), .int .u64 (wd x 2), .int .u64 (wd x 3), .int .u64 (wd y 0), .int .u64 (wd y 1), .int .u64 (wd y 2), .int .u64 (wd y 3)] 24)).alloc o) fun e w' => e = .returned (.agg #[.int .u64 (wd (x ||| y) 0), .int .u64 (wd (x ||| y) 1), .int .u64 (wd (x ||| y) 2), .int .u64 (wd (x ||| y) 3)]) ∧ Below ((w.alloc (.cells #[.int .u64 (wd x 0), .int .u64 (wd x 1), .int .u64 (wd x 2), .int .u64 (wd x 3), .int .u64 (wd y 0), .int .u64 (wd y 1), .int .u64 (wd y 2), .int .u64 (wd y 3)] 24)).alloc o).heap.size ((w.alloc (.cells #[.int .u64 (wd x 0), .int .u64 (wd x 1), .int .u64 (wd x 2), .int .u64 (wd x 3), .int .u64 (wd y 0), .int .u64 (wd y 1), .int .u64 (wd y 2), .int .u64 (wd y 3)] 24)).alloc o) w' := by
  subst hn
  refine (runion_any _ _ _ ((sl_two w x y).below (below_one _ _))).mono ?_
  rintro e w' ⟨rfl, hb⟩
  rw [union_two]
  exact ⟨rfl, hb⟩
theorem set_zero_drew {w a : World} (h : Below (w.alloc (.cells #[.int .u64 0, .int .u64 0, .int .u64 0, .int .u64 0] 24)).drew.heap.size (w.alloc (.cells #[.int .u64 0, .int .u64 0, .int .u64 0, .int .u64 0] 24)).drew a) : SetAt a w.heap.size 0 := SetAt.grown (w := (w.alloc (.cells #[.int .u64 0, .int .u64 0, .int .u64 0, .int .u64 0] 24)).drew) (SetAt.zero w) h
noncomputable def regJ : Code := ((Try.f7.body.bind (regionOf 11)).getD .skip)
set_option maxHeartbeats 40000000 in
theorem regJ_any (K : Act → World → Prop) (w5 : World) (b1 b2 : Nat) (p q : Pat) (a1 a2 : Option Addr) (c1 c2 : Nat) (hsp : p.size < 9999) (hsq : q.size < 9999)
    (hx : Box w5 b1 #[.int .i64 p.op, .int .u64 (wd p.set 0), .int .u64 (wd p.set 1), .int .u64 (wd p.set 2), .int .u64 (wd p.set 3), .int .i64 p.lo, .int .i64 p.hi, .slice a1 p.kids.length c1]) (hy : Box w5 b2 #[.int .i64 q.op, .int .u64 (wd q.set 0), .int .u64 (wd q.set 1), .int .u64 (wd q.set 2), .int .u64 (wd q.set 3), .int .i64 q.lo, .int .i64 q.hi, .slice a2 q.kids.length c2]) (hkX : Kids w5 p.kids (.slice a1 p.kids.length c1)) (hkY : Kids w5 q.kids (.slice a2 q.kids.length c2))
    (t0 t1 t2 t3 t4 t5 t8 t9 t10 t11 t12 t13 t14 t15 t16 t17 t18 t19 t20 t21 t22 t23 t24 t25 t26 t27 t28 t29 t30 t31 t32 t33 t34 t35 t36 t37 t38 t39 t40 t41 t42 t43 t44 t45 t46 t47 t48 t49 t50 t51 t52 t53 t54 t55 t56 t57 t58 t59 t60 t61 t62 t63 t64 t65 t66 t67 t68 t69 t70 t71 t72 t73 t74 t75 t76 t77 t78 t79 t80 t81 t82 t83 t84 t85 t86 t87 t88 t89 t90 t91 t92 t93 t94 t95 t96 t97 t98 t99 t100 t101 t102 t103 t104 t105 t106 t107 t108 t109 t110 t111 t112 t113 t114 t115 t116 t117 t118 t119 t120 t121 t122 t123 : Value)
    (HK : Hid (∀ (v37 v38 v39 v40 v41 v42 : Value) (b3 : Nat) (wx : World), SetAt wx b3 (p.bytes ||| q.bytes) → Below w5.heap.size w5 wx → K ⟨#[t0, t1, t2, t3, t4, t5, .pointer (some ⟨b1, 0, none⟩), .pointer (some ⟨b2, 0, none⟩), t8, t9, t10, .pointer (some ⟨b3, 0, none⟩), t12, t13, t14, t15, t16, t17, t18, t19, t20, t21, t22, t23, t24, t25, t26, t27, t28, t29, t30, t31, t32, t33, t34, t35, t36, v37, v38, v39, v40, v41, v42, t43, t44, t45, t46, t47, t48, t49, t50, t51, t52, t53, t54, t55, t56, t57, t58, t59, t60, t61, t62, t63, t64, t65, t66, t67, t68, t69, t70, t71, t72, t73, t74, t75, t76, t77, t78, t79, t80, t81, t82, t83, t84, t85, t86, t87, t88, t89, t90, t91, t92, t93, t94, t95, t96, t97, t98, t99, t100, t101, t102, t103, t104, t105, t106, t107, t108, t109, t110, t111, t112, t113, t114, t115, t116, t117, t118, t119, t120, t121, t122, t123], []⟩ wx)) :
    Code.wp Try.prog regJ (Exit.then K (fun _ _ _ => False)) ⟨#[t0, t1, t2, t3, t4, t5, .pointer (some ⟨b1, 0, none⟩), .pointer (some ⟨b2, 0, none⟩), t8, t9, t10, t11, t12, t13, t14, t15, t16, t17, t18, t19, t20, t21, t22, t23, t24, t25, t26, t27, t28, t29, t30, t31, t32, t33, t34, t35, t36, t37, t38, t39, t40, t41, t42, t43, t44, t45, t46, t47, t48, t49, t50, t51, t52, t53, t54, t55, t56, t57, t58, t59, t60, t61, t62, t63, t64, t65, t66, t67, t68, t69, t70, t71, t72, t73, t74, t75, t76, t77, t78, t79, t80, t81, t82, t83, t84, t85, t86, t87, t88, t89, t90, t91, t92, t93, t94, t95, t96, t97, t98, t99, t100, t101, t102, t103, t104, t105, t106, t107, t108, t109, t110, t111, t112, t113, t114, t115, t116, t117, t118, t119, t120, t121, t122, t123], []⟩ w5 := by
  conv => arg 2; whnf
  have hB : Below w5.heap.size w5 w5.drew := (Below.refl _ _).drew
  have hB0 : ∀ o, Below w5.heap.size w5 (w5.alloc o).drew := fun o => (below_one w5 o).drew
  have HB0 := Lib.hid hB0
  clear hB0
  have hlx := hx.lt
  have hly := hy.lt
  obtain ⟨p0, p1, p2, p3, p4, p5, p6, p7⟩ := hx.cells
  obtain ⟨q0, q1, q2, q3, q4, q5, q6, q7⟩ := hy.cells
  go_region_with (first
    | (go_at_call 27; first
      | ((with_reducible refine (bytes_p p _ _ hsp (hkX.below (by first | with_reducible exact hB | with_reducible exact below_step hB (below_one _ _) | with_reducible exact HB0.out _))).mono ?_); rintro e w6 ⟨rfl, hb6⟩; have hBn : Below w5.heap.size w5 w6 := (by first | with_reducible exact below_step hB hb6 | with_reducible exact below_step (below_step hB (below_one _ _)) hb6 | with_reducible exact below_step (HB0.out _) hb6); replace hB := hBn; clear hBn; have hsz := hB.size; have hl1 : b1 < w6.heap.size := Nat.lt_of_lt_of_le hlx hsz; have hl2 : b2 < w6.heap.size := Nat.lt_of_lt_of_le hly hsz; clear p0 p1 p2 p3 p4 p5 p6 p7 q0 q1 q2 q3 q4 q5 q6 q7; obtain ⟨p0, p1, p2, p3, p4, p5, p6, p7⟩ := (hx.below hB).cells; obtain ⟨q0, q1, q2, q3, q4, q5, q6, q7⟩ := (hy.below hB).cells; first | (with_reducible have hz := hz.grown hb6) | (with_reducible have hz := set_zero_drew hb6) | (with_reducible have hz := (SetAt.zero _).grown hb6) | skip)
      | ((with_reducible refine (bytes_p q _ _ hsq (hkY.below (by first | with_reducible exact hB | with_reducible exact below_step hB (below_one _ _) | with_reducible exact HB0.out _))).mono ?_); rintro e w6 ⟨rfl, hb6⟩; have hBn : Below w5.heap.size w5 w6 := (by first | with_reducible exact below_step hB hb6 | with_reducible exact below_step (below_step hB (below_one _ _)) hb6 | with_reducible exact below_step (HB0.out _) hb6); replace hB := hBn; clear hBn; have hsz := hB.size; have hl1 : b1 < w6.heap.size := Nat.lt_of_lt_of_le hlx hsz; have hl2 : b2 < w6.heap.size := Nat.lt_of_lt_of_le hly hsz; clear p0 p1 p2 p3 p4 p5 p6 p7 q0 q1 q2 q3 q4 q5 q6 q7; obtain ⟨p0, p1, p2, p3, p4, p5, p6, p7⟩ := (hx.below hB).cells; obtain ⟨q0, q1, q2, q3, q4, q5, q6, q7⟩ := (hy.below hB).cells; first | (with_reducible have hz := hz.grown hb6) | (with_reducible have hz := set_zero_drew hb6) | (with_reducible have hz := (SetAt.zero _).grown hb6) | skip))
    | (go_at_call 33; first
      | ((with_reducible refine (runion_pair p.bytes q.bytes w6 _ rfl).mono ?_); rintro e w7 ⟨rfl, hb7⟩; have hB7 := below_step hB hb7; clear p0 p1 p2 p3 p4 p5 p6 p7 q0 q1 q2 q3 q4 q5 q6 q7; first | (have hz := hz.grown hb7; obtain ⟨z0, z1, z2, z3⟩ := hz.cells; obtain ⟨y0, y1, y2, y3⟩ := hz.free) | skip)
      | ((with_reducible refine (runion_pair2 p.bytes q.bytes _ w6 _ rfl).mono ?_); rintro e w7 ⟨rfl, hb7⟩; have hB7 := below_step (below_step (below_step hB (below_one _ _)) (below_one _ _)) hb7; clear p0 p1 p2 p3 p4 p5 p6 p7 q0 q1 q2 q3 q4 q5 q6 q7; have hz : SetAt w7 (w6.heap.size + 1) 0 := (by have h0 := SetAt.zero (w6.alloc (.cells #[.int .u64 (wd p.bytes 0), .int .u64 (wd p.bytes 1), .int .u64 (wd p.bytes 2), .int .u64 (wd p.bytes 3), .int .u64 (wd q.bytes 0), .int .u64 (wd q.bytes 1), .int .u64 (wd q.bytes 2), .int .u64 (wd q.bytes 3)] 24)); rw [World.size_alloc] at h0; exact h0.grown hb7); obtain ⟨z0, z1, z2, z3⟩ := hz.cells; obtain ⟨y0, y1, y2, y3⟩ := hz.free)
      | ((with_reducible refine (runion_pair p.bytes q.bytes (w6.alloc _) _ (World.size_alloc _ _)).mono ?_); rintro e w7 ⟨rfl, hb7⟩; have hB7 := below_step (below_step hB (below_one _ _)) hb7; clear p0 p1 p2 p3 p4 p5 p6 p7 q0 q1 q2 q3 q4 q5 q6 q7; have hz : SetAt w7 w6.heap.size 0 := (SetAt.zero w6).grown hb7; obtain ⟨z0, z1, z2, z3⟩ := hz.cells; obtain ⟨y0, y1, y2, y3⟩ := hz.free)))
  all_goals
    go_wp2_with fail
    first
      | (with_reducible exact HK.out _ _ _ _ _ _ _ _ (SetAt.new _ _) (below_step hB7 (below_one _ _)))
      | exact HK.out _ _ _ _ _ _ _ _ (hz.store _) (below_set4 hB7 (by omega) _ _ _ _)
end Go.Proofs.Ytnjcefjcpmjdiaa
