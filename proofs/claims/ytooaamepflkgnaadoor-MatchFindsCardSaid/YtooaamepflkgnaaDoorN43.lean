/- Texts that a proof rests on: What a region of calls leans on: cells of one or two nodes, and that all that was stays. -/
import Derived.Test.YtooaamepflkgnaaDoorN11
set_option maxRecDepth 20000
namespace Go.Proofs.YtooaamepflkgnaaDoor
open Go.RowKit

theorem s8_keep {w5 W W' : World} {b : Nat} {x0 x1 x2 x3 x4 x5 x6 x7 : Value} (hbl : b < w5.heap.size)
    (h : W.cell? ⟨b, 0, none⟩ = some x0 ∧ W.cell? ⟨b, 1, none⟩ = some x1 ∧ W.cell? ⟨b, 2, none⟩ = some x2 ∧ W.cell? ⟨b, 3, none⟩ = some x3 ∧ W.cell? ⟨b, 4, none⟩ = some x4 ∧ W.cell? ⟨b, 5, none⟩ = some x5 ∧ W.cell? ⟨b, 6, none⟩ = some x6 ∧ W.cell? ⟨b, 7, none⟩ = some x7 ∧ Below w5.heap.size w5 W) (hb : Below W.heap.size W W') :
    W'.cell? ⟨b, 0, none⟩ = some x0 ∧ W'.cell? ⟨b, 1, none⟩ = some x1 ∧ W'.cell? ⟨b, 2, none⟩ = some x2 ∧ W'.cell? ⟨b, 3, none⟩ = some x3 ∧ W'.cell? ⟨b, 4, none⟩ = some x4 ∧ W'.cell? ⟨b, 5, none⟩ = some x5 ∧ W'.cell? ⟨b, 6, none⟩ = some x6 ∧ W'.cell? ⟨b, 7, none⟩ = some x7 ∧ Below w5.heap.size w5 W' := by
  obtain ⟨h0, h1, h2, h3, h4, h5, h6, h7, h8⟩ := h
  have lb : b < W.heap.size := Nat.lt_of_lt_of_le hbl h8.size
  have cb (o : Nat) := hb.cell (p := ⟨b, o, none⟩) lb
  exact ⟨(cb _).trans h0, (cb _).trans h1, (cb _).trans h2, (cb _).trans h3, (cb _).trans h4, (cb _).trans h5, (cb _).trans h6, (cb _).trans h7, h8.trans (hb.mono h8.size)⟩
theorem s8_below {w5 W : World} {b : Nat} {x0 x1 x2 x3 x4 x5 x6 x7 : Value}
    (h : W.cell? ⟨b, 0, none⟩ = some x0 ∧ W.cell? ⟨b, 1, none⟩ = some x1 ∧ W.cell? ⟨b, 2, none⟩ = some x2 ∧ W.cell? ⟨b, 3, none⟩ = some x3 ∧ W.cell? ⟨b, 4, none⟩ = some x4 ∧ W.cell? ⟨b, 5, none⟩ = some x5 ∧ W.cell? ⟨b, 6, none⟩ = some x6 ∧ W.cell? ⟨b, 7, none⟩ = some x7 ∧ Below w5.heap.size w5 W) : Below w5.heap.size w5 W := h.2.2.2.2.2.2.2.2
theorem s8_start {w5 W : World} {b : Nat} {x0 x1 x2 x3 x4 x5 x6 x7 : Value} (hx : Box w5 b #[x0, x1, x2, x3, x4, x5, x6, x7]) (hb : Below w5.heap.size w5 W) :
    W.cell? ⟨b, 0, none⟩ = some x0 ∧ W.cell? ⟨b, 1, none⟩ = some x1 ∧ W.cell? ⟨b, 2, none⟩ = some x2 ∧ W.cell? ⟨b, 3, none⟩ = some x3 ∧ W.cell? ⟨b, 4, none⟩ = some x4 ∧ W.cell? ⟨b, 5, none⟩ = some x5 ∧ W.cell? ⟨b, 6, none⟩ = some x6 ∧ W.cell? ⟨b, 7, none⟩ = some x7 ∧ Below w5.heap.size w5 W := by
  obtain ⟨c0, c1, c2, c3, c4, c5, c6, c7⟩ := (hx.below hb).cells
  exact ⟨c0, c1, c2, c3, c4, c5, c6, c7, hb⟩
theorem s16_keep {w5 W W' : World} {b g : Nat} {x0 x1 x2 x3 x4 x5 x6 x7 y0 y1 y2 y3 y4 y5 y6 y7 : Value} (hbl : b < w5.heap.size) (hg : g < w5.heap.size)
    (h : W.cell? ⟨b, 0, none⟩ = some x0 ∧ W.cell? ⟨b, 1, none⟩ = some x1 ∧ W.cell? ⟨b, 2, none⟩ = some x2 ∧ W.cell? ⟨b, 3, none⟩ = some x3 ∧ W.cell? ⟨b, 4, none⟩ = some x4 ∧ W.cell? ⟨b, 5, none⟩ = some x5 ∧ W.cell? ⟨b, 6, none⟩ = some x6 ∧ W.cell? ⟨b, 7, none⟩ = some x7 ∧ W.cell? ⟨g, 0, none⟩ = some y0 ∧ W.cell? ⟨g, 1, none⟩ = some y1 ∧ W.cell? ⟨g, 2, none⟩ = some y2 ∧ W.cell? ⟨g, 3, none⟩ = some y3 ∧ W.cell? ⟨g, 4, none⟩ = some y4 ∧ W.cell? ⟨g, 5, none⟩ = some y5 ∧ W.cell? ⟨g, 6, none⟩ = some y6 ∧ W.cell? ⟨g, 7, none⟩ = some y7 ∧ Below w5.heap.size w5 W) (hb : Below W.heap.size W W') :
    W'.cell? ⟨b, 0, none⟩ = some x0 ∧ W'.cell? ⟨b, 1, none⟩ = some x1 ∧ W'.cell? ⟨b, 2, none⟩ = some x2 ∧ W'.cell? ⟨b, 3, none⟩ = some x3 ∧ W'.cell? ⟨b, 4, none⟩ = some x4 ∧ W'.cell? ⟨b, 5, none⟩ = some x5 ∧ W'.cell? ⟨b, 6, none⟩ = some x6 ∧ W'.cell? ⟨b, 7, none⟩ = some x7 ∧ W'.cell? ⟨g, 0, none⟩ = some y0 ∧ W'.cell? ⟨g, 1, none⟩ = some y1 ∧ W'.cell? ⟨g, 2, none⟩ = some y2 ∧ W'.cell? ⟨g, 3, none⟩ = some y3 ∧ W'.cell? ⟨g, 4, none⟩ = some y4 ∧ W'.cell? ⟨g, 5, none⟩ = some y5 ∧ W'.cell? ⟨g, 6, none⟩ = some y6 ∧ W'.cell? ⟨g, 7, none⟩ = some y7 ∧ Below w5.heap.size w5 W' := by
  obtain ⟨h0, h1, h2, h3, h4, h5, h6, h7, k0, k1, k2, k3, k4, k5, k6, k7, h8⟩ := h
  have lb : b < W.heap.size := Nat.lt_of_lt_of_le hbl h8.size
  have lg : g < W.heap.size := Nat.lt_of_lt_of_le hg h8.size
  have cb (o : Nat) := hb.cell (p := ⟨b, o, none⟩) lb
  have cg (o : Nat) := hb.cell (p := ⟨g, o, none⟩) lg
  exact ⟨(cb _).trans h0, (cb _).trans h1, (cb _).trans h2, (cb _).trans h3, (cb _).trans h4, (cb _).trans h5, (cb _).trans h6, (cb _).trans h7, (cg _).trans k0, (cg _).trans k1, (cg _).trans k2, (cg _).trans k3, (cg _).trans k4, (cg _).trans k5, (cg _).trans k6, (cg _).trans k7, h8.trans (hb.mono h8.size)⟩
theorem s16_below {w5 W : World} {b g : Nat} {x0 x1 x2 x3 x4 x5 x6 x7 y0 y1 y2 y3 y4 y5 y6 y7 : Value}
    (h : W.cell? ⟨b, 0, none⟩ = some x0 ∧ W.cell? ⟨b, 1, none⟩ = some x1 ∧ W.cell? ⟨b, 2, none⟩ = some x2 ∧ W.cell? ⟨b, 3, none⟩ = some x3 ∧ W.cell? ⟨b, 4, none⟩ = some x4 ∧ W.cell? ⟨b, 5, none⟩ = some x5 ∧ W.cell? ⟨b, 6, none⟩ = some x6 ∧ W.cell? ⟨b, 7, none⟩ = some x7 ∧ W.cell? ⟨g, 0, none⟩ = some y0 ∧ W.cell? ⟨g, 1, none⟩ = some y1 ∧ W.cell? ⟨g, 2, none⟩ = some y2 ∧ W.cell? ⟨g, 3, none⟩ = some y3 ∧ W.cell? ⟨g, 4, none⟩ = some y4 ∧ W.cell? ⟨g, 5, none⟩ = some y5 ∧ W.cell? ⟨g, 6, none⟩ = some y6 ∧ W.cell? ⟨g, 7, none⟩ = some y7 ∧ Below w5.heap.size w5 W) : Below w5.heap.size w5 W := h.2.2.2.2.2.2.2.2.2.2.2.2.2.2.2.2
theorem s16_start {w5 W : World} {b g : Nat} {x0 x1 x2 x3 x4 x5 x6 x7 y0 y1 y2 y3 y4 y5 y6 y7 : Value} (hx : Box w5 b #[x0, x1, x2, x3, x4, x5, x6, x7]) (hy : Box w5 g #[y0, y1, y2, y3, y4, y5, y6, y7]) (hb : Below w5.heap.size w5 W) :
    W.cell? ⟨b, 0, none⟩ = some x0 ∧ W.cell? ⟨b, 1, none⟩ = some x1 ∧ W.cell? ⟨b, 2, none⟩ = some x2 ∧ W.cell? ⟨b, 3, none⟩ = some x3 ∧ W.cell? ⟨b, 4, none⟩ = some x4 ∧ W.cell? ⟨b, 5, none⟩ = some x5 ∧ W.cell? ⟨b, 6, none⟩ = some x6 ∧ W.cell? ⟨b, 7, none⟩ = some x7 ∧ W.cell? ⟨g, 0, none⟩ = some y0 ∧ W.cell? ⟨g, 1, none⟩ = some y1 ∧ W.cell? ⟨g, 2, none⟩ = some y2 ∧ W.cell? ⟨g, 3, none⟩ = some y3 ∧ W.cell? ⟨g, 4, none⟩ = some y4 ∧ W.cell? ⟨g, 5, none⟩ = some y5 ∧ W.cell? ⟨g, 6, none⟩ = some y6 ∧ W.cell? ⟨g, 7, none⟩ = some y7 ∧ Below w5.heap.size w5 W := by
  obtain ⟨c0, c1, c2, c3, c4, c5, c6, c7⟩ := (hx.below hb).cells
  obtain ⟨d0, d1, d2, d3, d4, d5, d6, d7⟩ := (hy.below hb).cells
  exact ⟨c0, c1, c2, c3, c4, c5, c6, c7, d0, d1, d2, d3, d4, d5, d6, d7, hb⟩
theorem below_one (w : World) (o : Obj) : Below w.heap.size w (w.alloc o) := (Below.refl _ _).alloc (Nat.le_refl _) _
theorem below_oned (w : World) (o : Obj) : Below w.drew.heap.size w.drew (w.drew.alloc o) := (Below.refl _ _).alloc (Nat.le_refl _) _
/-- A slice of kids, spelled. -/
theorem kids_form {w : World} {lo : Nat} {l : List Pat} {js : Value} (h : KidsN w lo l js) : ∃ a c, js = .slice a l.length c ∧ Kids w l (.slice a l.length c) := by
  obtain ⟨a, c, rfl⟩ := h.kids.len
  exact ⟨a, c, rfl, h.kids⟩
end Go.Proofs.YtooaamepflkgnaaDoor
