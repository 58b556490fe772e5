/- A region of RegexChecks: a Not round the node. -/
import Derived.Test.YtnjcefjcpmjdiaaK6
import Derived.Deep.RegionHeld3
set_option maxRecDepth 20000
namespace Go.Proofs.Ytnjcefjcpmjdiaa
open Go.RowKit

theorem wrapE_mk {W w5 : World} {b1 : Nat} {p : Pat} {a : Option Addr} {c : Nat} (hx : Box W b1 #[.int .i64 p.op, .int .u64 (wd p.set 0), .int .u64 (wd p.set 1), .int .u64 (wd p.set 2), .int .u64 (wd p.set 3), .int .i64 p.lo, .int .i64 p.hi, .slice a p.kids.length c]) (hb : Below (W.alloc (.cells #[.int .i64 p.op, .int .u64 (wd p.set 0), .int .u64 (wd p.set 1), .int .u64 (wd p.set 2), .int .u64 (wd p.set 3), .int .i64 p.lo, .int .i64 p.hi, .slice a p.kids.length c] 28)).heap.size (W.alloc (.cells #[.int .i64 p.op, .int .u64 (wd p.set 0), .int .u64 (wd p.set 1), .int .u64 (wd p.set 2), .int .u64 (wd p.set 3), .int .i64 p.lo, .int .i64 p.hi, .slice a p.kids.length c] 28)) w5) :
    Wrap W ((((((((w5.setCell ⟨b1, 0, none⟩ (.int .i64 5)).setCell ⟨b1, 1, none⟩ (.int .u64 (wd (0#256) 0))).setCell ⟨b1, 2, none⟩ (.int .u64 (wd (0#256) 1))).setCell ⟨b1, 3, none⟩ (.int .u64 (wd (0#256) 2))).setCell ⟨b1, 4, none⟩ (.int .u64 (wd (0#256) 3))).setCell ⟨b1, 5, none⟩ (.int .i64 0)).setCell ⟨b1, 6, none⟩ (.int .i64 0)).setCell ⟨b1, 7, none⟩ (.slice (some ⟨W.heap.size, 0, none⟩) 1 1)) b1 p a c 5 0 0 := by
  have hl := hx.lt
  have hg : Box w5 W.heap.size #[.int .i64 p.op, .int .u64 (wd p.set 0), .int .u64 (wd p.set 1), .int .u64 (wd p.set 2), .int .u64 (wd p.set 3), .int .i64 p.lo, .int .i64 p.hi, .slice a p.kids.length c] := Box.below (w := (W.alloc (.cells #[.int .i64 p.op, .int .u64 (wd p.set 0), .int .u64 (wd p.set 1), .int .u64 (wd p.set 2), .int .u64 (wd p.set 3), .int .i64 p.lo, .int .i64 p.hi, .slice a p.kids.length c] 28))) (Box.new W _ rfl) hb
  have hx5 : Box w5 b1 #[.int .i64 p.op, .int .u64 (wd p.set 0), .int .u64 (wd p.set 1), .int .u64 (wd p.set 2), .int .u64 (wd p.set 3), .int .i64 p.lo, .int .i64 p.hi, .slice a p.kids.length c] := (hx.alloc _).below hb
  refine ⟨W.heap.size, hg.other8 (by omega) _ _ _ _ _ _ _ _, Nat.le_refl _, hx5.store _ _ _ _ _ _ _ _, ?_⟩
  exact ((grown_of_below (below_one W (.cells #[.int .i64 p.op, .int .u64 (wd p.set 0), .int .u64 (wd p.set 1), .int .u64 (wd p.set 2), .int .u64 (wd p.set 3), .int .i64 p.lo, .int .i64 p.hi, .slice a p.kids.length c] 28))).trans (grown_of_below hb)).trans (grown_set8 w5 b1 _ _ _ _ _ _ _ _)
noncomputable def regE : Code := ((Try.f5.body.bind (regionOf 16)).getD .skip)
set_option maxHeartbeats 4000000 in
theorem regE_any (K : Act → World → Prop) (W : World) (b1 : Nat) (p : Pat) (a : Option Addr) (c : Nat)
    (hx : Box W b1 #[.int .i64 p.op, .int .u64 (wd p.set 0), .int .u64 (wd p.set 1), .int .u64 (wd p.set 2), .int .u64 (wd p.set 3), .int .i64 p.lo, .int .i64 p.hi, .slice a p.kids.length c])
    (t0 t1 t2 t3 t4 t5 t6 t7 t9 t10 t11 t12 t13 t14 t15 t16 t17 t18 t19 t20 t21 t22 t23 t24 t25 t26 t27 t28 t29 t30 t31 t32 t33 t34 t35 t36 t37 t38 t39 t40 t41 t42 t43 t44 t45 t46 t47 t48 t49 t50 t51 t52 t53 t54 t55 t56 t57 t58 t59 t60 t61 t62 t63 t64 t65 t66 t67 t68 t69 t70 t71 t72 t73 t74 t75 t76 : Value)
    (HK : Hid (∀ (v69 v70 v71 : Value) (wx : World), Wrap W wx b1 p a c 5 0 0 → K ⟨#[t0, t1, t2, t3, t4, t5, t6, t7, .pointer (some ⟨b1, 0, none⟩), t9, t10, t11, t12, t13, t14, t15, t16, t17, t18, t19, t20, t21, t22, t23, t24, t25, t26, t27, t28, t29, t30, t31, t32, t33, t34, t35, t36, t37, t38, t39, t40, t41, t42, t43, t44, t45, t46, t47, t48, t49, t50, t51, t52, t53, t54, t55, t56, t57, t58, t59, t60, t61, t62, t63, t64, t65, t66, t67, t68, v69, v70, v71, t72, t73, t74, t75, t76], []⟩ wx)) :
    Code.wp Try.prog regE (Exit.then K (fun _ _ _ => False)) ⟨#[t0, t1, t2, t3, t4, t5, t6, t7, .pointer (some ⟨b1, 0, none⟩), t9, t10, t11, t12, t13, t14, t15, t16, t17, t18, t19, t20, t21, t22, t23, t24, t25, t26, t27, t28, t29, t30, t31, t32, t33, t34, t35, t36, t37, t38, t39, t40, t41, t42, t43, t44, t45, t46, t47, t48, t49, t50, t51, t52, t53, t54, t55, t56, t57, t58, t59, t60, t61, t62, t63, t64, t65, t66, t67, t68, t69, t70, t71, t72, t73, t74, t75, t76], []⟩ W := by
  conv => arg 2; whnf
  have hl := hx.lt
  obtain ⟨p0, p1, p2, p3, p4, p5, p6, p7⟩ := hx.cells
  obtain ⟨f0, f1, f2, f3, f4, f5, f6, f7⟩ := hx.frees
  dsimp only
  go_wp2_with (go_at_call 17; refine (rmany_sl 5 _ 1 1 [p] _).mono ?_; rintro e w5 ⟨rfl, hb5⟩; obtain ⟨z0, z1, z2, z3, z4, z5, z6, z7⟩ := Box.cells (Box.below (Box.alloc hx _) hb5); obtain ⟨g0, g1, g2, g3, g4, g5, g6, g7⟩ := Box.frees (Box.below (Box.alloc hx _) hb5))
  exact HK.out _ _ _ _ (wrapE_mk hx (by assumption))
end Go.Proofs.Ytnjcefjcpmjdiaa
