/- A node in a block of its own. -/
import Derived.Test.YtnjcefjcpmjdiaaD3
set_option maxRecDepth 20000
namespace Go.Proofs.Ytnjcefjcpmjdiaa
open Go.RowKit

/-- Block b holds these cells of a node, and may be written. -/
def Box (w : World) (b : Nat) (c : Array Value) : Prop := w.heap[b]? = some (.cells c 28 (0, 0))
theorem Box.lt {w : World} {b : Nat} {c : Array Value} (h : Box w b c) : b < w.heap.size := lt_of_block h
theorem Box.new (w : World) (c : Array Value) {n : Nat} (hn : w.heap.size = n) : Box (w.alloc (.cells c 28)) n c := by subst hn; exact heap_alloc_new w _
theorem Box.lower {w w' : World} {b B : Nat} {c : Array Value} (h : Box w b c) (hb : Below B w w') (hB : b < B) : Box w' b c := (hb.block b hB).trans h
theorem Box.below {w w' : World} {b : Nat} {c : Array Value} (h : Box w b c) (hb : Below w.heap.size w w') : Box w' b c := h.lower hb h.lt
theorem Box.alloc {w : World} {b : Nat} {c : Array Value} (h : Box w b c) (o : Obj) : Box (w.alloc o) b c := h.below ((Below.refl _ _).alloc (Nat.le_refl _) _)
theorem Box.drew {w : World} {b : Nat} {c : Array Value} (h : Box w b c) : Box w.drew b c := h
theorem Box.grown {w w' : World} {b : Nat} {c : Array Value} {x : Option Nat} (h : Box w b c) (hg : w.grownBy w' x) (hx : x ≠ some b) : Box w' b c := (hg.block b h.lt (fun e => hx e.symm)).trans h
theorem Box.other {w : World} {b : Nat} {c : Array Value} (h : Box w b c) {a : Addr} (ha : b ≠ a.block) (u : Value) : Box (w.setCell a u) b c := (Below.heap_setCell _ _ _ _ ha).trans h
theorem Box.set {w : World} {b i : Nat} {c : Array Value} (h : Box w b c) (u : Value) : Box (w.setCell ⟨b, i, none⟩ u) b (c.setIfInBounds i u) := setCell_block h u
theorem Box.cell {w : World} {b : Nat} {c : Array Value} (h : Box w b c) (i : Nat) : w.cell? ⟨b, i, none⟩ = c[i]? := by
  unfold Box at h; simp [World.cell?, h]
theorem Box.free {w : World} {b : Nat} {c : Array Value} (h : Box w b c) (i : Nat) : w.frozen? ⟨b, i, none⟩ = false := by
  unfold Box at h; simp [World.frozen?, h]
theorem Box.cells {w : World} {b : Nat} {v0 v1 v2 v3 v4 v5 v6 v7 : Value} (h : Box w b #[v0, v1, v2, v3, v4, v5, v6, v7]) : w.cell? ⟨b, 0, none⟩ = some v0 ∧ w.cell? ⟨b, 1, none⟩ = some v1 ∧ w.cell? ⟨b, 2, none⟩ = some v2 ∧ w.cell? ⟨b, 3, none⟩ = some v3 ∧ w.cell? ⟨b, 4, none⟩ = some v4 ∧ w.cell? ⟨b, 5, none⟩ = some v5 ∧ w.cell? ⟨b, 6, none⟩ = some v6 ∧ w.cell? ⟨b, 7, none⟩ = some v7 :=
  ⟨h.cell 0, h.cell 1, h.cell 2, h.cell 3, h.cell 4, h.cell 5, h.cell 6, h.cell 7⟩
theorem Box.frees {w : World} {b : Nat} {c : Array Value} (h : Box w b c) : w.frozen? ⟨b, 0, none⟩ = false ∧ w.frozen? ⟨b, 1, none⟩ = false ∧ w.frozen? ⟨b, 2, none⟩ = false ∧ w.frozen? ⟨b, 3, none⟩ = false ∧ w.frozen? ⟨b, 4, none⟩ = false ∧ w.frozen? ⟨b, 5, none⟩ = false ∧ w.frozen? ⟨b, 6, none⟩ = false ∧ w.frozen? ⟨b, 7, none⟩ = false :=
  ⟨h.free 0, h.free 1, h.free 2, h.free 3, h.free 4, h.free 5, h.free 6, h.free 7⟩
theorem Box.set0 {w : World} {b : Nat} {v0 v1 v2 v3 v4 v5 v6 v7 : Value} (h : Box w b #[v0, v1, v2, v3, v4, v5, v6, v7]) (u : Value) : Box (w.setCell ⟨b, 0, none⟩ u) b #[u, v1, v2, v3, v4, v5, v6, v7] := by
  have := h.set (i := 0) u; simpa using this
theorem Box.set1 {w : World} {b : Nat} {v0 v1 v2 v3 v4 v5 v6 v7 : Value} (h : Box w b #[v0, v1, v2, v3, v4, v5, v6, v7]) (u : Value) : Box (w.setCell ⟨b, 1, none⟩ u) b #[v0, u, v2, v3, v4, v5, v6, v7] := by
  have := h.set (i := 1) u; simpa using this
theorem Box.set2 {w : World} {b : Nat} {v0 v1 v2 v3 v4 v5 v6 v7 : Value} (h : Box w b #[v0, v1, v2, v3, v4, v5, v6, v7]) (u : Value) : Box (w.setCell ⟨b, 2, none⟩ u) b #[v0, v1, u, v3, v4, v5, v6, v7] := by
  have := h.set (i := 2) u; simpa using this
theorem Box.set3 {w : World} {b : Nat} {v0 v1 v2 v3 v4 v5 v6 v7 : Value} (h : Box w b #[v0, v1, v2, v3, v4, v5, v6, v7]) (u : Value) : Box (w.setCell ⟨b, 3, none⟩ u) b #[v0, v1, v2, u, v4, v5, v6, v7] := by
  have := h.set (i := 3) u; simpa using this
theorem Box.set4 {w : World} {b : Nat} {v0 v1 v2 v3 v4 v5 v6 v7 : Value} (h : Box w b #[v0, v1, v2, v3, v4, v5, v6, v7]) (u : Value) : Box (w.setCell ⟨b, 4, none⟩ u) b #[v0, v1, v2, v3, u, v5, v6, v7] := by
  have := h.set (i := 4) u; simpa using this
theorem Box.set5 {w : World} {b : Nat} {v0 v1 v2 v3 v4 v5 v6 v7 : Value} (h : Box w b #[v0, v1, v2, v3, v4, v5, v6, v7]) (u : Value) : Box (w.setCell ⟨b, 5, none⟩ u) b #[v0, v1, v2, v3, v4, u, v6, v7] := by
  have := h.set (i := 5) u; simpa using this
theorem Box.set6 {w : World} {b : Nat} {v0 v1 v2 v3 v4 v5 v6 v7 : Value} (h : Box w b #[v0, v1, v2, v3, v4, v5, v6, v7]) (u : Value) : Box (w.setCell ⟨b, 6, none⟩ u) b #[v0, v1, v2, v3, v4, v5, u, v7] := by
  have := h.set (i := 6) u; simpa using this
theorem Box.set7 {w : World} {b : Nat} {v0 v1 v2 v3 v4 v5 v6 v7 : Value} (h : Box w b #[v0, v1, v2, v3, v4, v5, v6, v7]) (u : Value) : Box (w.setCell ⟨b, 7, none⟩ u) b #[v0, v1, v2, v3, v4, v5, v6, u] := by
  have := h.set (i := 7) u; simpa using this
theorem Box.store {w : World} {b : Nat} {v0 v1 v2 v3 v4 v5 v6 v7 : Value} (h : Box w b #[v0, v1, v2, v3, v4, v5, v6, v7]) (u0 u1 u2 u3 u4 u5 u6 u7 : Value) : Box ((((((((w.setCell ⟨b, 0, none⟩ u0).setCell ⟨b, 1, none⟩ u1).setCell ⟨b, 2, none⟩ u2).setCell ⟨b, 3, none⟩ u3).setCell ⟨b, 4, none⟩ u4).setCell ⟨b, 5, none⟩ u5).setCell ⟨b, 6, none⟩ u6).setCell ⟨b, 7, none⟩ u7) b #[u0, u1, u2, u3, u4, u5, u6, u7] :=
  ((((((((h.set0 u0).set1 u1).set2 u2).set3 u3).set4 u4).set5 u5).set6 u6).set7 u7)
theorem below_set8 {B b : Nat} {a w : World} (h : Below B a w) (hb : B ≤ b) (u0 u1 u2 u3 u4 u5 u6 u7 : Value) : Below B a ((((((((w.setCell ⟨b, 0, none⟩ u0).setCell ⟨b, 1, none⟩ u1).setCell ⟨b, 2, none⟩ u2).setCell ⟨b, 3, none⟩ u3).setCell ⟨b, 4, none⟩ u4).setCell ⟨b, 5, none⟩ u5).setCell ⟨b, 6, none⟩ u6).setCell ⟨b, 7, none⟩ u7) :=
  ((((((((h.setCell (p := ⟨b, 0, none⟩) hb _).setCell (p := ⟨b, 1, none⟩) hb _).setCell (p := ⟨b, 2, none⟩) hb _).setCell (p := ⟨b, 3, none⟩) hb _).setCell (p := ⟨b, 4, none⟩) hb _).setCell (p := ⟨b, 5, none⟩) hb _).setCell (p := ⟨b, 6, none⟩) hb _).setCell (p := ⟨b, 7, none⟩) hb _)
theorem Box.other8 {w : World} {d b : Nat} {c : Array Value} (h : Box w d c) (hb : d ≠ b) (u0 u1 u2 u3 u4 u5 u6 u7 : Value) : Box ((((((((w.setCell ⟨b, 0, none⟩ u0).setCell ⟨b, 1, none⟩ u1).setCell ⟨b, 2, none⟩ u2).setCell ⟨b, 3, none⟩ u3).setCell ⟨b, 4, none⟩ u4).setCell ⟨b, 5, none⟩ u5).setCell ⟨b, 6, none⟩ u6).setCell ⟨b, 7, none⟩ u7) d c :=
  ((((((((h.other (a := ⟨b, 0, none⟩) hb _).other (a := ⟨b, 1, none⟩) hb _).other (a := ⟨b, 2, none⟩) hb _).other (a := ⟨b, 3, none⟩) hb _).other (a := ⟨b, 4, none⟩) hb _).other (a := ⟨b, 5, none⟩) hb _).other (a := ⟨b, 6, none⟩) hb _).other (a := ⟨b, 7, none⟩) hb _)
theorem heap_set8 {w : World} {b c : Nat} (hb : c ≠ b) (u0 u1 u2 u3 u4 u5 u6 u7 : Value) : ((((((((w.setCell ⟨b, 0, none⟩ u0).setCell ⟨b, 1, none⟩ u1).setCell ⟨b, 2, none⟩ u2).setCell ⟨b, 3, none⟩ u3).setCell ⟨b, 4, none⟩ u4).setCell ⟨b, 5, none⟩ u5).setCell ⟨b, 6, none⟩ u6).setCell ⟨b, 7, none⟩ u7).heap[c]? = w.heap[c]? := by
  rw [Below.heap_setCell _ _ _ _ (by simpa using hb), Below.heap_setCell _ _ _ _ (by simpa using hb), Below.heap_setCell _ _ _ _ (by simpa using hb), Below.heap_setCell _ _ _ _ (by simpa using hb), Below.heap_setCell _ _ _ _ (by simpa using hb), Below.heap_setCell _ _ _ _ (by simpa using hb), Below.heap_setCell _ _ _ _ (by simpa using hb), Below.heap_setCell _ _ _ _ (by simpa using hb)]
theorem KidsN.set8 {w : World} {lo b : Nat} {l : List Pat} {ks : Value} (h : KidsN w lo l ks) (hb : b < lo) (u0 u1 u2 u3 u4 u5 u6 u7 : Value) : KidsN ((((((((w.setCell ⟨b, 0, none⟩ u0).setCell ⟨b, 1, none⟩ u1).setCell ⟨b, 2, none⟩ u2).setCell ⟨b, 3, none⟩ u3).setCell ⟨b, 4, none⟩ u4).setCell ⟨b, 5, none⟩ u5).setCell ⟨b, 6, none⟩ u6).setCell ⟨b, 7, none⟩ u7) lo l ks :=
  h.lower fun c h1 _ => heap_set8 (by omega) _ _ _ _ _ _ _ _
theorem KidsN.set1 {w : World} {lo b i : Nat} {l : List Pat} {ks : Value} (h : KidsN w lo l ks) (hb : b < lo) (u : Value) : KidsN (w.setCell ⟨b, i, none⟩ u) lo l ks :=
  h.lower fun c h1 _ => Below.heap_setCell _ _ _ _ (by show c ≠ b; omega)
theorem own_not {w : World} {base size n b : Nat} {e : TypeId} {v : Value} {xs : List Value} (h : w.ownsRow base e size v n xs) (hb : b < base) : v.ownBlock ≠ some b := fun e => by
  have := (h.lt b e).1; omega
theorem below_grown {a w w1 : World} {base n size : Nat} {e : TypeId} {v : Value} {xs : List Value} (h : Below a.heap.size a w) (hr : w.ownsRow base e size v n xs) (hg : w.grownBy w1 v.ownBlock) (hB : a.heap.size ≤ base) : Below a.heap.size a w1 :=
  h.grown hg h.size (fun k e => Nat.le_trans hB (hr.lt k e).1)
end Go.Proofs.Ytnjcefjcpmjdiaa
