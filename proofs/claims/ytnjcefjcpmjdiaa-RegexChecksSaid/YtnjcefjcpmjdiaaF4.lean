/- What a region of calls leans on: two nodes and a set; contracts of nodes put together. -/
import Derived.Test.YtnjcefjcpmjdiaaF3
set_option maxRecDepth 20000
namespace Go.Proofs.Ytnjcefjcpmjdiaa
open Go.RowKit

theorem s20_keep {w5 W W' : World} {b g d : Nat} {x0 x1 x2 x3 x4 x5 x6 x7 y0 y1 y2 y3 y4 y5 y6 y7 z0 z1 z2 z3 : Value} (hbl : b < w5.heap.size) (hg : g < w5.heap.size) (hd : d < w5.heap.size)
    (h : W.cell? ⟨b, 0, none⟩ = some x0 ∧ W.cell? ⟨b, 1, none⟩ = some x1 ∧ W.cell? ⟨b, 2, none⟩ = some x2 ∧ W.cell? ⟨b, 3, none⟩ = some x3 ∧ W.cell? ⟨b, 4, none⟩ = some x4 ∧ W.cell? ⟨b, 5, none⟩ = some x5 ∧ W.cell? ⟨b, 6, none⟩ = some x6 ∧ W.cell? ⟨b, 7, none⟩ = some x7 ∧ W.cell? ⟨g, 0, none⟩ = some y0 ∧ W.cell? ⟨g, 1, none⟩ = some y1 ∧ W.cell? ⟨g, 2, none⟩ = some y2 ∧ W.cell? ⟨g, 3, none⟩ = some y3 ∧ W.cell? ⟨g, 4, none⟩ = some y4 ∧ W.cell? ⟨g, 5, none⟩ = some y5 ∧ W.cell? ⟨g, 6, none⟩ = some y6 ∧ W.cell? ⟨g, 7, none⟩ = some y7 ∧ W.cell? ⟨d, 0, none⟩ = some z0 ∧ W.cell? ⟨d, 1, none⟩ = some z1 ∧ W.cell? ⟨d, 2, none⟩ = some z2 ∧ W.cell? ⟨d, 3, none⟩ = some z3 ∧ Below w5.heap.size w5 W) (hb : Below W.heap.size W W') :
    W'.cell? ⟨b, 0, none⟩ = some x0 ∧ W'.cell? ⟨b, 1, none⟩ = some x1 ∧ W'.cell? ⟨b, 2, none⟩ = some x2 ∧ W'.cell? ⟨b, 3, none⟩ = some x3 ∧ W'.cell? ⟨b, 4, none⟩ = some x4 ∧ W'.cell? ⟨b, 5, none⟩ = some x5 ∧ W'.cell? ⟨b, 6, none⟩ = some x6 ∧ W'.cell? ⟨b, 7, none⟩ = some x7 ∧ W'.cell? ⟨g, 0, none⟩ = some y0 ∧ W'.cell? ⟨g, 1, none⟩ = some y1 ∧ W'.cell? ⟨g, 2, none⟩ = some y2 ∧ W'.cell? ⟨g, 3, none⟩ = some y3 ∧ W'.cell? ⟨g, 4, none⟩ = some y4 ∧ W'.cell? ⟨g, 5, none⟩ = some y5 ∧ W'.cell? ⟨g, 6, none⟩ = some y6 ∧ W'.cell? ⟨g, 7, none⟩ = some y7 ∧ W'.cell? ⟨d, 0, none⟩ = some z0 ∧ W'.cell? ⟨d, 1, none⟩ = some z1 ∧ W'.cell? ⟨d, 2, none⟩ = some z2 ∧ W'.cell? ⟨d, 3, none⟩ = some z3 ∧ Below w5.heap.size w5 W' := by
  obtain ⟨h0, h1, h2, h3, h4, h5, h6, h7, k0, k1, k2, k3, k4, k5, k6, k7, j0, j1, j2, j3, h8⟩ := h
  have cb (o : Nat) := hb.cell (p := ⟨b, o, none⟩) (Nat.lt_of_lt_of_le hbl h8.size)
  have cg (o : Nat) := hb.cell (p := ⟨g, o, none⟩) (Nat.lt_of_lt_of_le hg h8.size)
  have cd (o : Nat) := hb.cell (p := ⟨d, o, none⟩) (Nat.lt_of_lt_of_le hd h8.size)
  exact ⟨(cb _).trans h0, (cb _).trans h1, (cb _).trans h2, (cb _).trans h3, (cb _).trans h4, (cb _).trans h5, (cb _).trans h6, (cb _).trans h7, (cg _).trans k0, (cg _).trans k1, (cg _).trans k2, (cg _).trans k3, (cg _).trans k4, (cg _).trans k5, (cg _).trans k6, (cg _).trans k7, (cd _).trans j0, (cd _).trans j1, (cd _).trans j2, (cd _).trans j3, h8.trans (hb.mono h8.size)⟩
theorem s20_below {w5 W : World} {b g d : Nat} {x0 x1 x2 x3 x4 x5 x6 x7 y0 y1 y2 y3 y4 y5 y6 y7 z0 z1 z2 z3 : Value}
    (h : W.cell? ⟨b, 0, none⟩ = some x0 ∧ W.cell? ⟨b, 1, none⟩ = some x1 ∧ W.cell? ⟨b, 2, none⟩ = some x2 ∧ W.cell? ⟨b, 3, none⟩ = some x3 ∧ W.cell? ⟨b, 4, none⟩ = some x4 ∧ W.cell? ⟨b, 5, none⟩ = some x5 ∧ W.cell? ⟨b, 6, none⟩ = some x6 ∧ W.cell? ⟨b, 7, none⟩ = some x7 ∧ W.cell? ⟨g, 0, none⟩ = some y0 ∧ W.cell? ⟨g, 1, none⟩ = some y1 ∧ W.cell? ⟨g, 2, none⟩ = some y2 ∧ W.cell? ⟨g, 3, none⟩ = some y3 ∧ W.cell? ⟨g, 4, none⟩ = some y4 ∧ W.cell? ⟨g, 5, none⟩ = some y5 ∧ W.cell? ⟨g, 6, none⟩ = some y6 ∧ W.cell? ⟨g, 7, none⟩ = some y7 ∧ W.cell? ⟨d, 0, none⟩ = some z0 ∧ W.cell? ⟨d, 1, none⟩ = some z1 ∧ W.cell? ⟨d, 2, none⟩ = some z2 ∧ W.cell? ⟨d, 3, none⟩ = some z3 ∧ Below w5.heap.size w5 W) : Below w5.heap.size w5 W := h.2.2.2.2.2.2.2.2.2.2.2.2.2.2.2.2.2.2.2.2
theorem s20_start {w5 W : World} {b g d : Nat} {x0 x1 x2 x3 x4 x5 x6 x7 y0 y1 y2 y3 y4 y5 y6 y7 : Value} {s : BitVec 256} (hx : Box w5 b #[x0, x1, x2, x3, x4, x5, x6, x7]) (hy : Box w5 g #[y0, y1, y2, y3, y4, y5, y6, y7]) (hz : SetAt w5 d s) (hb : Below w5.heap.size w5 W) :
    W.cell? ⟨b, 0, none⟩ = some x0 ∧ W.cell? ⟨b, 1, none⟩ = some x1 ∧ W.cell? ⟨b, 2, none⟩ = some x2 ∧ W.cell? ⟨b, 3, none⟩ = some x3 ∧ W.cell? ⟨b, 4, none⟩ = some x4 ∧ W.cell? ⟨b, 5, none⟩ = some x5 ∧ W.cell? ⟨b, 6, none⟩ = some x6 ∧ W.cell? ⟨b, 7, none⟩ = some x7 ∧ W.cell? ⟨g, 0, none⟩ = some y0 ∧ W.cell? ⟨g, 1, none⟩ = some y1 ∧ W.cell? ⟨g, 2, none⟩ = some y2 ∧ W.cell? ⟨g, 3, none⟩ = some y3 ∧ W.cell? ⟨g, 4, none⟩ = some y4 ∧ W.cell? ⟨g, 5, none⟩ = some y5 ∧ W.cell? ⟨g, 6, none⟩ = some y6 ∧ W.cell? ⟨g, 7, none⟩ = some y7 ∧ W.cell? ⟨d, 0, none⟩ = some (.int .u64 (wd s 0)) ∧ W.cell? ⟨d, 1, none⟩ = some (.int .u64 (wd s 1)) ∧ W.cell? ⟨d, 2, none⟩ = some (.int .u64 (wd s 2)) ∧ W.cell? ⟨d, 3, none⟩ = some (.int .u64 (wd s 3)) ∧ Below w5.heap.size w5 W := by
  obtain ⟨c0, c1, c2, c3, c4, c5, c6, c7⟩ := (hx.below hb).cells
  obtain ⟨d0, d1, d2, d3, d4, d5, d6, d7⟩ := (hy.below hb).cells
  obtain ⟨e0, e1, e2, e3⟩ := (hz.grown hb).cells
  exact ⟨c0, c1, c2, c3, c4, c5, c6, c7, d0, d1, d2, d3, d4, d5, d6, d7, e0, e1, e2, e3, hb⟩
theorem set_p (s : BitVec 256) (w : World) : Calls Try.prog 14 #[(.agg #[.int .u64 (wd (s) 0), .int .u64 (wd (s) 1), .int .u64 (wd (s) 2), .int .u64 (wd (s) 3)])] w fun e w' => ∃ a c, e = .returned (.agg #[.int .i64 (Pat.mk 0 s 0 0 []).op, .int .u64 (wd (Pat.mk 0 s 0 0 []).set 0), .int .u64 (wd (Pat.mk 0 s 0 0 []).set 1), .int .u64 (wd (Pat.mk 0 s 0 0 []).set 2), .int .u64 (wd (Pat.mk 0 s 0 0 []).set 3), .int .i64 (Pat.mk 0 s 0 0 []).lo, .int .i64 (Pat.mk 0 s 0 0 []).hi, .slice a 0 c]) ∧ Below w.heap.size w w' := by
  refine (set_any s w).mono ?_
  rintro e w' ⟨ks, rfl, hk, hb⟩
  obtain ⟨a1, c1, rfl, hk'⟩ := kids_form hk
  exact ⟨a1, c1, rfl, hb⟩
theorem rsame_mk (op : Int) (s : BitVec 256) (lo hi : Int) (kids : List Pat) (ks js : Value) (w : World) (hs : Pat.sizes kids < 9998) (hk : Kids w kids ks) (hj : Kids w kids js) :
    Calls Try.prog 13 #[(.agg #[.int .i64 (Pat.mk op s lo hi kids).op, .int .u64 (wd (Pat.mk op s lo hi kids).set 0), .int .u64 (wd (Pat.mk op s lo hi kids).set 1), .int .u64 (wd (Pat.mk op s lo hi kids).set 2), .int .u64 (wd (Pat.mk op s lo hi kids).set 3), .int .i64 (Pat.mk op s lo hi kids).lo, .int .i64 (Pat.mk op s lo hi kids).hi, ks]), (.agg #[.int .i64 (Pat.mk op s lo hi kids).op, .int .u64 (wd (Pat.mk op s lo hi kids).set 0), .int .u64 (wd (Pat.mk op s lo hi kids).set 1), .int .u64 (wd (Pat.mk op s lo hi kids).set 2), .int .u64 (wd (Pat.mk op s lo hi kids).set 3), .int .i64 (Pat.mk op s lo hi kids).lo, .int .i64 (Pat.mk op s lo hi kids).hi, js])] w fun e w' => e = .returned (.bool true) ∧ Below w.heap.size w w' :=
  rsame_self_p (Pat.mk op s lo hi kids) ks js w (by simp only [Pat.size]; omega) hk hj
theorem rmany_two (op : Int) (a : Option Addr) (n cap : Nat) (kids : List Pat) (w : World) :
    Calls Try.prog 17 #[.int .i64 op, .slice a n cap] w fun e w' => e = .returned (.agg #[.int .i64 (Pat.mk op (0#256) 0 0 kids).op, .int .u64 (wd (Pat.mk op (0#256) 0 0 kids).set 0), .int .u64 (wd (Pat.mk op (0#256) 0 0 kids).set 1), .int .u64 (wd (Pat.mk op (0#256) 0 0 kids).set 2), .int .u64 (wd (Pat.mk op (0#256) 0 0 kids).set 3), .int .i64 (Pat.mk op (0#256) 0 0 kids).lo, .int .i64 (Pat.mk op (0#256) 0 0 kids).hi, .slice a n cap]) ∧ Below w.heap.size w w' := rmany_sl op a n cap kids w
theorem Kids.first {w : World} {p q : Pat} {a : Addr} {n c : Nat} (h : Kids w [p, q] (.slice (some a) n c)) : Kids w [p] (.slice (some a) 1 c) := by
  rcases h with ⟨h, _⟩ | ⟨b, o, cap, e, h⟩
  · cases h
  · cases e
    refine .inr ⟨b, o, c, rfl, ?_⟩
    unfold RowAt RowAt at *
    exact ⟨h.1, trivial⟩
theorem nul_mk (op : Int) (s : BitVec 256) (lo hi : Int) (kids : List Pat) (ks : Value) (w : World) (hs : Pat.sizes kids < 9998) (hk : Kids w kids ks) (v : Bool) (hv : (Pat.mk op s lo hi kids).nul = v) :
    Calls Try.prog 23 #[(.agg #[.int .i64 (Pat.mk op s lo hi kids).op, .int .u64 (wd (Pat.mk op s lo hi kids).set 0), .int .u64 (wd (Pat.mk op s lo hi kids).set 1), .int .u64 (wd (Pat.mk op s lo hi kids).set 2), .int .u64 (wd (Pat.mk op s lo hi kids).set 3), .int .i64 (Pat.mk op s lo hi kids).lo, .int .i64 (Pat.mk op s lo hi kids).hi, ks])] w fun e w' => e = .returned (.bool v) ∧ Below w.heap.size w w' := by
  subst hv
  exact null_p (Pat.mk op s lo hi kids) ks w (by simp only [Pat.size]; omega) hk
theorem size_mk (op : Int) (s : BitVec 256) (lo hi : Int) (kids : List Pat) (ks : Value) (w : World) (hs : Pat.sizes kids < 9998) (hk : Kids w kids ks) (v : Int) (hv : ((Pat.mk op s lo hi kids).size : Int) = v) :
    Calls Try.prog 25 #[(.agg #[.int .i64 (Pat.mk op s lo hi kids).op, .int .u64 (wd (Pat.mk op s lo hi kids).set 0), .int .u64 (wd (Pat.mk op s lo hi kids).set 1), .int .u64 (wd (Pat.mk op s lo hi kids).set 2), .int .u64 (wd (Pat.mk op s lo hi kids).set 3), .int .i64 (Pat.mk op s lo hi kids).lo, .int .i64 (Pat.mk op s lo hi kids).hi, ks])] w fun e w' => e = .returned (.int .i64 v) ∧ Below w.heap.size w w' := by
  subst hv
  exact size_p (Pat.mk op s lo hi kids) ks w (by simp only [Pat.size]; omega) hk
theorem bytes_mk (op : Int) (s : BitVec 256) (lo hi : Int) (kids : List Pat) (ks : Value) (w : World) (hs : Pat.sizes kids < 9998) (hk : Kids w kids ks) (v : BitVec 256) (hv : (Pat.mk op s lo hi kids).bytes = v) :
    Calls Try.prog 27 #[(.agg #[.int .i64 (Pat.mk op s lo hi kids).op, .int .u64 (wd (Pat.mk op s lo hi kids).set 0), .int .u64 (wd (Pat.mk op s lo hi kids).set 1), .int .u64 (wd (Pat.mk op s lo hi kids).set 2), .int .u64 (wd (Pat.mk op s lo hi kids).set 3), .int .i64 (Pat.mk op s lo hi kids).lo, .int .i64 (Pat.mk op s lo hi kids).hi, ks])] w fun e w' => e = .returned (.agg #[.int .u64 (wd (v) 0), .int .u64 (wd (v) 1), .int .u64 (wd (v) 2), .int .u64 (wd (v) 3)]) ∧ Below w.heap.size w w' := by
  subst hv
  exact bytes_p (Pat.mk op s lo hi kids) ks w (by simp only [Pat.size]; omega) hk
end Go.Proofs.Ytnjcefjcpmjdiaa
