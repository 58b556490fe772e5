/- A region of RegexChecks: a node round the node, with any kind and numbers; in whatever order it is carried out. -/
import Derived.Test.YtnjcefjcpmjdiaaF4
import Derived.Test.YtnjcefjcpmjdiaaR0
import Derived.RegionTactic
import Derived.ChangeAlike
set_option maxRecDepth 20000
namespace Go.Proofs.Ytnjcefjcpmjdiaa
open Go.RowKit

/-- Block b1's node lies in a new block, a node round it in block b1; all else is as it was. -/
def Wrap (W wx : World) (b1 : Nat) (p : Pat) (a : Option Addr) (c : Nat) (z0 z1 z2 : Int) : Prop := ∃ g, Box wx g #[.int .i64 p.op, .int .u64 (wd p.set 0), .int .u64 (wd p.set 1), .int .u64 (wd p.set 2), .int .u64 (wd p.set 3), .int .i64 p.lo, .int .i64 p.hi, .slice a p.kids.length c] ∧ W.heap.size ≤ g ∧ Box wx b1 #[.int .i64 (Pat.mk z0 (0#256) z1 z2 [p]).op, .int .u64 (wd (Pat.mk z0 (0#256) z1 z2 [p]).set 0), .int .u64 (wd (Pat.mk z0 (0#256) z1 z2 [p]).set 1), .int .u64 (wd (Pat.mk z0 (0#256) z1 z2 [p]).set 2), .int .u64 (wd (Pat.mk z0 (0#256) z1 z2 [p]).set 3), .int .i64 (Pat.mk z0 (0#256) z1 z2 [p]).lo, .int .i64 (Pat.mk z0 (0#256) z1 z2 [p]).hi, .slice (some ⟨g, 0, none⟩) 1 1] ∧ W.grownBy wx (some b1)
theorem size_set8 (W : World) (b : Nat) (u0 u1 u2 u3 u4 u5 u6 u7 : Value) : ((((((((W.setCell ⟨b, 0, none⟩ u0).setCell ⟨b, 1, none⟩ u1).setCell ⟨b, 2, none⟩ u2).setCell ⟨b, 3, none⟩ u3).setCell ⟨b, 4, none⟩ u4).setCell ⟨b, 5, none⟩ u5).setCell ⟨b, 6, none⟩ u6).setCell ⟨b, 7, none⟩ u7).heap.size = W.heap.size := by simp
theorem grown_set8 (W : World) (b : Nat) (u0 u1 u2 u3 u4 u5 u6 u7 : Value) : W.grownBy ((((((((W.setCell ⟨b, 0, none⟩ u0).setCell ⟨b, 1, none⟩ u1).setCell ⟨b, 2, none⟩ u2).setCell ⟨b, 3, none⟩ u3).setCell ⟨b, 4, none⟩ u4).setCell ⟨b, 5, none⟩ u5).setCell ⟨b, 6, none⟩ u6).setCell ⟨b, 7, none⟩ u7) (some b) := by
  have h : Below b W W := Below.refl _ _
  have h8 := below_set8 h (Nat.le_refl b) u0 u1 u2 u3 u4 u5 u6 u7
  exact ⟨h8.os, h8.tape, h8.output, h8.size, fun k _ hne => heap_set8 (fun e => hne (by rw [e])) _ _ _ _ _ _ _ _⟩
theorem grown_alloc {A B : World} {x : Option Nat} (h : A.grownBy B x) (o : Obj) : A.grownBy (B.alloc o).drew x := by
  have hb := (below_one B o).drew
  exact ⟨hb.os.trans h.os, hb.tape.trans h.tape, hb.output.trans h.output, Nat.le_trans h.size hb.size, fun k hk hne => (hb.block k (Nat.lt_of_lt_of_le hk h.size)).trans (h.block k hk hne)⟩
theorem wrap_mk {W : World} {b1 : Nat} {p : Pat} {a : Option Addr} {c : Nat} {z0 z1 z2 : Int} (hx : Box W b1 #[.int .i64 p.op, .int .u64 (wd p.set 0), .int .u64 (wd p.set 1), .int .u64 (wd p.set 2), .int .u64 (wd p.set 3), .int .i64 p.lo, .int .i64 p.hi, .slice a p.kids.length c]) :
    Wrap W (((((((((W.setCell ⟨b1, 0, none⟩ (.int .i64 z0)).setCell ⟨b1, 1, none⟩ (.int .u64 0)).setCell ⟨b1, 2, none⟩ (.int .u64 0)).setCell ⟨b1, 3, none⟩ (.int .u64 0)).setCell ⟨b1, 4, none⟩ (.int .u64 0)).setCell ⟨b1, 5, none⟩ (.int .i64 z1)).setCell ⟨b1, 6, none⟩ (.int .i64 z2)).setCell ⟨b1, 7, none⟩ (.slice (some ⟨W.heap.size, 0, none⟩) 1 1)).alloc (.cells #[.int .i64 p.op, .int .u64 (wd p.set 0), .int .u64 (wd p.set 1), .int .u64 (wd p.set 2), .int .u64 (wd p.set 3), .int .i64 p.lo, .int .i64 p.hi, .slice a p.kids.length c] 28)).drew b1 p a c z0 z1 z2 := by
  refine ⟨W.heap.size, Box.drew (Box.new _ _ (size_set8 W b1 _ _ _ _ _ _ _ _)), Nat.le_refl _, ?_, grown_alloc (grown_set8 W b1 _ _ _ _ _ _ _ _) _⟩
  have h := (hx.store (.int .i64 z0) (.int .u64 0) (.int .u64 0) (.int .u64 0) (.int .u64 0) (.int .i64 z1) (.int .i64 z2) (.slice (some ⟨W.heap.size, 0, none⟩) 1 1)).alloc (.cells #[.int .i64 p.op, .int .u64 (wd p.set 0), .int .u64 (wd p.set 1), .int .u64 (wd p.set 2), .int .u64 (wd p.set 3), .int .i64 p.lo, .int .i64 p.hi, .slice a p.kids.length c] 28)
  have e : ∀ i, ((wd (Pat.mk z0 (0#256) z1 z2 [p]).set i : Nat) : Int) = 0 := fun i => by
    show ((wd (0#256) i : Nat) : Int) = 0
    rw [wd_none]; rfl
  rw [e, e, e, e]
  exact Box.drew h
noncomputable def regC : Code := ((Try.f5.body.bind (regionOf 10)).getD .skip)
set_option maxHeartbeats 4000000 in
theorem regC_any (K : Act → World → Prop) (W : World) (bo off n cap b1 k : Nat) (p : Pat) (a : Option Addr) (c : Nat) (z0 z1 z2 : Int)
    (hbo : bo < W.heap.size) (hk : k + 2 < n) (hn : n ≤ 30) (hx : Box W b1 #[.int .i64 p.op, .int .u64 (wd p.set 0), .int .u64 (wd p.set 1), .int .u64 (wd p.set 2), .int .u64 (wd p.set 3), .int .i64 p.lo, .int .i64 p.hi, .slice a p.kids.length c])
    (o0 : W.cell? ⟨bo, off + k, none⟩ = some (.int .i64 z0)) (o1 : W.cell? ⟨bo, off + (k + 1), none⟩ = some (.int .i64 z1)) (o2 : W.cell? ⟨bo, off + (k + 2), none⟩ = some (.int .i64 z2))
    (t0 t2 t3 t4 t5 t6 t7 t10 t11 t12 t13 t14 t15 t16 t17 t18 t19 t20 t21 t22 t23 t24 t25 t26 t27 t28 t29 t30 t31 t32 t33 t34 t35 t36 t37 t38 t39 t40 t41 t42 t43 t44 t45 t46 t47 t48 t49 t50 t51 t52 t53 t54 t55 t56 t57 t58 t59 t60 t61 t62 t63 t64 t65 t66 t67 t68 t69 t70 t71 t72 t73 t74 t75 t76 : Value)
    (HK : Hid (∀ (v31 v32 v33 v34 v35 v36 v37 v38 v39 v40 v41 v42 v43 v44 v45 v46 v47 : Value) (wx : World), Wrap W wx b1 p a c z0 z1 z2 → K ⟨#[t0, .slice (some ⟨bo, off, none⟩) n cap, t2, t3, t4, t5, t6, t7, .pointer (some ⟨b1, 0, none⟩), .int .i64 k, t10, t11, t12, t13, t14, t15, t16, t17, t18, t19, t20, t21, t22, t23, t24, t25, t26, t27, t28, t29, t30, v31, v32, v33, v34, v35, v36, v37, v38, v39, v40, v41, v42, v43, v44, v45, v46, v47, t48, t49, t50, t51, t52, t53, t54, t55, t56, t57, t58, t59, t60, t61, t62, t63, t64, t65, t66, t67, t68, t69, t70, t71, t72, t73, t74, t75, t76], []⟩ wx)) :
    Code.wp Try.prog regC (Exit.then K (fun _ _ _ => False)) ⟨#[t0, .slice (some ⟨bo, off, none⟩) n cap, t2, t3, t4, t5, t6, t7, .pointer (some ⟨b1, 0, none⟩), .int .i64 k, t10, t11, t12, t13, t14, t15, t16, t17, t18, t19, t20, t21, t22, t23, t24, t25, t26, t27, t28, t29, t30, t31, t32, t33, t34, t35, t36, t37, t38, t39, t40, t41, t42, t43, t44, t45, t46, t47, t48, t49, t50, t51, t52, t53, t54, t55, t56, t57, t58, t59, t60, t61, t62, t63, t64, t65, t66, t67, t68, t69, t70, t71, t72, t73, t74, t75, t76], []⟩ W := by
  conv => arg 2; whnf
  have hl := hx.lt
  have e1 : IntKind.i64.wrap ((k : Int) + 1) = (k : Int) + 1 := by rw [IntKind.wrap_i64]; omega
  have e2 : IntKind.i64.wrap ((k : Int) + 2) = (k : Int) + 2 := by rw [IntKind.wrap_i64]; omega
  have i0 : (0 : Int) ≤ (k : Int) := by omega
  have j0 : (k : Int) < (n : Int) := by omega
  have i1 : (0 : Int) ≤ (k : Int) + 1 := by omega
  have j1 : (k : Int) + 1 < (n : Int) := by omega
  have i2 : (0 : Int) ≤ (k : Int) + 2 := by omega
  have j2 : (k : Int) + 2 < (n : Int) := by omega
  obtain ⟨p0, p1, p2, p3, p4, p5, p6, p7⟩ := hx.cells
  obtain ⟨f0, f1, f2, f3, f4, f5, f6, f7⟩ := hx.frees
  dsimp only
  go_region
  exact HK.out _ _ _ _ _ _ _ _ _ _ _ _ _ _ _ _ _ _ (wrap_mk hx)
end Go.Proofs.Ytnjcefjcpmjdiaa
