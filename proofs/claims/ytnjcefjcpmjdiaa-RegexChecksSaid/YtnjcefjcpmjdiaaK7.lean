/- A region of RegexChecks: one more node, of no kind, beside a node's one kid. -/
import Derived.Test.YtnjcefjcpmjdiaaK6
import Derived.Maps.AppendAt
set_option maxRecDepth 20000
namespace Go.Proofs.Ytnjcefjcpmjdiaa
open Go.RowKit

/-- Behind it: block b1's node has its kid, and an empty node. -/
def Twice (W wx : World) (b1 g : Nat) (q : Pat) (cs : List Value) : Prop := ∃ (W1 : World) (v : Value), W1.ownsRow (b1 + 1) 28 8 v 2 (cs ++ [.int .i64 (Pat.mk 0 0 0 0 []).op, .int .u64 (wd (Pat.mk 0 0 0 0 []).set 0), .int .u64 (wd (Pat.mk 0 0 0 0 []).set 1), .int .u64 (wd (Pat.mk 0 0 0 0 []).set 2), .int .u64 (wd (Pat.mk 0 0 0 0 []).set 3), .int .i64 (Pat.mk 0 0 0 0 []).lo, .int .i64 (Pat.mk 0 0 0 0 []).hi, .slice none 0 0]) ∧ (v.ownBlock = some g ∨ v.ownBlock = some (W.heap.size + 1)) ∧ W.grownBy W1 (some g) ∧ Box W1 b1 #[.int .i64 q.op, .int .u64 (wd q.set 0), .int .u64 (wd q.set 1), .int .u64 (wd q.set 2), .int .u64 (wd q.set 3), .int .i64 q.lo, .int .i64 q.hi, .slice (some ⟨g, 0, none⟩) 1 1] ∧ wx = W1.setCell ⟨b1, 7, none⟩ v
theorem own_form {w : World} {base size : Nat} {e : TypeId} {v : Value} {xs : List Value} (h : w.ownsRow base e size v 2 xs) : ∃ g c, v = .slice (some ⟨g, 0, none⟩) 2 c := by
  rcases h.2 with ⟨_, h0⟩ | ⟨g, cap, cur, rfl, _⟩
  · omega
  · exact ⟨g, cap, rfl⟩
theorem free7 {W w7 : World} {b1 g : Nat} {o : Obj} {c : Array Value} (hbg : b1 < g) (hx : Box W b1 c) (hgrow : (W.alloc o).grownBy w7 (Value.slice (some ⟨g, 0, none⟩) 1 1).ownBlock) : w7.frozen? ⟨b1, 7, none⟩ = false :=
  ((hx.alloc o).grown hgrow (by simp [Value.ownBlock]; omega)).free 7
theorem cell7 {W w7 : World} {b1 g : Nat} {o : Obj} {u0 u1 u2 u3 u4 u5 u6 u7 : Value} (hbg : b1 < g) (hx : Box W b1 #[u0, u1, u2, u3, u4, u5, u6, u7]) (hgrow : (W.alloc o).grownBy w7 (Value.slice (some ⟨g, 0, none⟩) 1 1).ownBlock) : w7.cell? ⟨b1, 7, none⟩ = some u7 :=
  ((hx.alloc o).grown hgrow (by simp [Value.ownBlock]; omega)).cell 7
theorem twice_mk {W w7 : World} {b1 g g' c' : Nat} {q : Pat} {cs : List Value} {o : Obj} (hbg : b1 < g) (hlg : g < W.heap.size) (hx : Box W b1 #[.int .i64 q.op, .int .u64 (wd q.set 0), .int .u64 (wd q.set 1), .int .u64 (wd q.set 2), .int .u64 (wd q.set 3), .int .i64 q.lo, .int .i64 q.hi, .slice (some ⟨g, 0, none⟩) 1 1])
    (hown : w7.ownsRow (b1 + 1) 28 8 (.slice (some ⟨g', 0, none⟩) 2 c') 2 (cs ++ [.int .i64 (Pat.mk 0 0 0 0 []).op, .int .u64 (wd (Pat.mk 0 0 0 0 []).set 0), .int .u64 (wd (Pat.mk 0 0 0 0 []).set 1), .int .u64 (wd (Pat.mk 0 0 0 0 []).set 2), .int .u64 (wd (Pat.mk 0 0 0 0 []).set 3), .int .i64 (Pat.mk 0 0 0 0 []).lo, .int .i64 (Pat.mk 0 0 0 0 []).hi, .slice none 0 0])) (hgrow : (W.alloc o).grownBy w7 (some g)) (hat : g' = g ∨ g' = W.heap.size + 1) :
    Twice W (w7.setCell ⟨b1, 7, none⟩ (.slice (some ⟨g', 0, none⟩) 2 c')) b1 g q cs :=
  ⟨w7, _, hown, by rcases hat with rfl | rfl <;> simp [Value.ownBlock], (grown_of_below (below_one W o)).trans hgrow, (hx.alloc o).grown hgrow (by simp; omega), rfl⟩
noncomputable def regD : Code := ((Try.f5.body.bind (regionOf 12)).getD .skip)
set_option maxHeartbeats 4000000 in
theorem regD_any (K : Act → World → Prop) (W : World) (b1 g : Nat) (q p : Pat) (a : Option Addr) (c : Nat)
    (hbg : b1 < g) (hx : Box W b1 #[.int .i64 q.op, .int .u64 (wd q.set 0), .int .u64 (wd q.set 1), .int .u64 (wd q.set 2), .int .u64 (wd q.set 3), .int .i64 q.lo, .int .i64 q.hi, .slice (some ⟨g, 0, none⟩) 1 1]) (hg : Box W g #[.int .i64 p.op, .int .u64 (wd p.set 0), .int .u64 (wd p.set 1), .int .u64 (wd p.set 2), .int .u64 (wd p.set 3), .int .i64 p.lo, .int .i64 p.hi, .slice a p.kids.length c])
    (t0 t1 t2 t3 t4 t5 t6 t7 t9 t10 t11 t12 t13 t14 t15 t16 t17 t18 t19 t20 t21 t22 t23 t24 t25 t26 t27 t28 t29 t30 t31 t32 t33 t34 t35 t36 t37 t38 t39 t40 t41 t42 t43 t44 t45 t46 t47 t48 t49 t50 t51 t52 t53 t54 t55 t56 t57 t58 t59 t60 t61 t62 t63 t64 t65 t66 t67 t68 t69 t70 t71 t72 t73 t74 t75 t76 : Value)
    (HK : Hid (∀ (v54 v55 v56 v57 v58 v59 : Value) (wx : World), Twice W wx b1 g q [.int .i64 p.op, .int .u64 (wd p.set 0), .int .u64 (wd p.set 1), .int .u64 (wd p.set 2), .int .u64 (wd p.set 3), .int .i64 p.lo, .int .i64 p.hi, .slice a p.kids.length c] → K ⟨#[t0, t1, t2, t3, t4, t5, t6, t7, .pointer (some ⟨b1, 0, none⟩), t9, t10, t11, t12, t13, t14, t15, t16, t17, t18, t19, t20, t21, t22, t23, t24, t25, t26, t27, t28, t29, t30, t31, t32, t33, t34, t35, t36, t37, t38, t39, t40, t41, t42, t43, t44, t45, t46, t47, t48, t49, t50, t51, t52, t53, v54, v55, v56, v57, v58, v59, t60, t61, t62, t63, t64, t65, t66, t67, t68, t69, t70, t71, t72, t73, t74, t75, t76], []⟩ wx)) :
    Code.wp Try.prog regD (Exit.then K (fun _ _ _ => False)) ⟨#[t0, t1, t2, t3, t4, t5, t6, t7, .pointer (some ⟨b1, 0, none⟩), t9, t10, t11, t12, t13, t14, t15, t16, t17, t18, t19, t20, t21, t22, t23, t24, t25, t26, t27, t28, t29, t30, t31, t32, t33, t34, t35, t36, t37, t38, t39, t40, t41, t42, t43, t44, t45, t46, t47, t48, t49, t50, t51, t52, t53, t54, t55, t56, t57, t58, t59, t60, t61, t62, t63, t64, t65, t66, t67, t68, t69, t70, t71, t72, t73, t74, t75, t76], []⟩ W := by
  conv => arg 2; whnf
  obtain ⟨i0, hi, hy0, hy1, hy2⟩ := info_parts infoNode
  have hl := hx.lt
  have hlg := hg.lt
  have hrow : W.ownsRow (b1 + 1) 28 8 (.slice (some ⟨g, 0, none⟩) 1 1) 1 [.int .i64 p.op, .int .u64 (wd p.set 0), .int .u64 (wd p.set 1), .int .u64 (wd p.set 2), .int .u64 (wd p.set 3), .int .i64 p.lo, .int .i64 p.hi, .slice a p.kids.length c] := ⟨by simp, .inr ⟨g, 1, _, rfl, by omega, hg, Nat.le_refl _, by unfold maxLen; omega, rfl, rfl⟩⟩
  obtain ⟨p0, p1, p2, p3, p4, p5, p6, p7⟩ := hx.cells
  obtain ⟨f0, f1, f2, f3, f4, f5, f6, f7⟩ := hx.frees
  dsimp only
  go_wp2_with (at_builtin; refine wpList_append_own_at _ rfl _ _ 26 rfl (b1 + 1) 28 i0 (.agg #[.int .i64 0, .int .u64 0, .int .u64 0, .int .u64 0, .int .u64 0, .int .i64 0, .int .i64 0, .slice none 0 0]) 8 80 Try.underlying26 hi hy0 hy1 hy2 rfl (by decide) (.slice (some ⟨g, 0, none⟩) 1 1) _ _ rfl (hrow.alloc _) ⟨W.heap.size, 0, none⟩ 1 1 [.int .i64 (Pat.mk 0 0 0 0 []).op, .int .u64 (wd (Pat.mk 0 0 0 0 []).set 0), .int .u64 (wd (Pat.mk 0 0 0 0 []).set 1), .int .u64 (wd (Pat.mk 0 0 0 0 []).set 2), .int .u64 (wd (Pat.mk 0 0 0 0 []).set 3), .int .i64 (Pat.mk 0 0 0 0 []).lo, .int .i64 (Pat.mk 0 0 0 0 []).hi, .slice none 0 0] rfl rfl (cell_eight_new W (Pat.mk 0 0 0 0 []) (.slice none 0 0) _) (by simp [Value.oneCell']) (by unfold maxLen; omega) (by omega) (by simp; omega) ?_; intro v' w7 hown' hgrow _ hat; obtain ⟨g', c', rfl⟩ := own_form hown'; have f77 := free7 hbg hx hgrow; have g77 := cell7 hbg hx hgrow)
  exact HK.out _ _ _ _ _ _ _ (twice_mk hbg hlg hx hown' hgrow (by simpa [Value.ownBlock] using hat))
end Go.Proofs.Ytnjcefjcpmjdiaa
