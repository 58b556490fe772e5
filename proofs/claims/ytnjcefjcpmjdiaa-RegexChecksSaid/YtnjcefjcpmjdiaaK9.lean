/- The walk of RegexChecks. -/
import Derived.Test.YtnjcefjcpmjdiaaK7
import Derived.Test.YtnjcefjcpmjdiaaK8



set_option maxRecDepth 100000
namespace Go.Proofs.Ytnjcefjcpmjdiaa
open Go.RowKit

/-- Block b1 holds the node p, whose kids lie elsewhere. -/
def Held (w : World) (b1 : Nat) (p : Pat) (a : Option Addr) (c : Nat) : Prop := Box w b1 #[.int .i64 p.op, .int .u64 (wd p.set 0), .int .u64 (wd p.set 1), .int .u64 (wd p.set 2), .int .u64 (wd p.set 3), .int .i64 p.lo, .int .i64 p.hi, .slice a p.kids.length c] ∧ Kids (mask w 0 (some b1)) p.kids (.slice a p.kids.length c)
theorem Held.kids {w : World} {b1 : Nat} {p : Pat} {a : Option Addr} {c : Nat} (h : Held w b1 p a c) : Kids w p.kids (.slice a p.kids.length c) := h.2.unmask
theorem held_new {w2 : World} {p : Pat} {a : Option Addr} {c : Nat} (hk : Kids w2 p.kids (.slice a p.kids.length c)) : Held (w2.alloc (.cells #[.int .i64 p.op, .int .u64 (wd p.set 0), .int .u64 (wd p.set 1), .int .u64 (wd p.set 2), .int .u64 (wd p.set 3), .int .i64 p.lo, .int .i64 p.hi, .slice a p.kids.length c] 28)) w2.heap.size p a c := by
  refine ⟨Box.new _ _ rfl, ?_⟩
  have h0 : Kids (mask w2 0 (some w2.heap.size)) p.kids (.slice a p.kids.length c) := hk.mono fun ad v e => (mask_cell _ _ _ _ _).2 ⟨⟨Nat.zero_le _, fun h => by have := cell_lt e; simp at h; omega⟩, e⟩
  exact h0.masked_below (below_one w2 _)
theorem held_wrap {W wx : World} {b1 : Nat} {p : Pat} {a : Option Addr} {c : Nat} {z0 z1 z2 : Int} (h : Held W b1 p a c) (hw : Wrap W wx b1 p a c z0 z1 z2) : ∃ g, W.heap.size ≤ g ∧ Box wx g #[.int .i64 p.op, .int .u64 (wd p.set 0), .int .u64 (wd p.set 1), .int .u64 (wd p.set 2), .int .u64 (wd p.set 3), .int .i64 p.lo, .int .i64 p.hi, .slice a p.kids.length c] ∧ Held wx b1 (Pat.mk z0 (0#256) z1 z2 [p]) (some ⟨g, 0, none⟩) 1 ∧ W.grownBy wx (some b1) := by
  obtain ⟨g, hg, hgl, hx, hgr⟩ := hw
  have hl := h.1.lt
  refine ⟨g, hgl, hg, ⟨hx, ?_⟩, hgr⟩
  have hk := h.2.masked hgr (.inl rfl)
  refine .inr ⟨g, 0, 1, rfl, ?_⟩
  unfold RowAt RowAt
  refine ⟨NodeAt.of hk fun j hj => ?_, trivial⟩
  have e : ∀ u, ([.int .i64 p.op, .int .u64 (wd p.set 0), .int .u64 (wd p.set 1), .int .u64 (wd p.set 2), .int .u64 (wd p.set 3), .int .i64 p.lo, .int .i64 p.hi, .slice a p.kids.length c] : List Value)[j]? = some u → (mask wx 0 (some b1)).cell? ⟨g, 0 + j, none⟩ = some u := fun u hu => (mask_cell _ _ _ _ _).2 ⟨⟨Nat.zero_le _, by simp; omega⟩, by rw [Nat.zero_add, hg.cell j]; simpa using hu⟩
  obtain ⟨u, hu⟩ : ∃ u, ([.int .i64 p.op, .int .u64 (wd p.set 0), .int .u64 (wd p.set 1), .int .u64 (wd p.set 2), .int .u64 (wd p.set 3), .int .i64 p.lo, .int .i64 p.hi, .slice a p.kids.length c] : List Value)[j]? = some u := ⟨_, List.getElem?_eq_getElem (by simp; omega)⟩
  rw [hu]; exact e u hu
theorem below_wrap {b1 : Nat} {w W wx : World} (hb : Below w.heap.size w W) (hg : W.grownBy wx (some b1)) (hl : w.heap.size ≤ b1) : Below w.heap.size w wx := hb.grown hg hb.size (fun k e => by cases e; exact hl)
theorem then_any {Q : Exit → Act → World → Prop} : ∀ (e : Exit) (a : Act) (w : World), Exit.then (fun a w => Q .normal a w) (fun _ _ _ => False) e a w → Q e a w := fun e a w h => by
  cases e <;> first | exact h | exact (h : False).elim
def emptyP : Pat := Pat.mk 0 (0#256) 0 0 []
theorem held_twice {W0 W wx : World} {b1 g : Nat} {p : Pat} {a : Option Addr} {c : Nat} {z0 z1 z2 : Int} (hW0 : W0.heap.size ≤ g) (hg0 : W0.grownBy W (some b1)) (hk : Kids (mask W0 0 (some b1)) p.kids (.slice a p.kids.length c))
    (ht : Twice W wx b1 g (Pat.mk z0 (0#256) z1 z2 [p]) [.int .i64 p.op, .int .u64 (wd p.set 0), .int .u64 (wd p.set 1), .int .u64 (wd p.set 2), .int .u64 (wd p.set 3), .int .i64 p.lo, .int .i64 p.hi, .slice a p.kids.length c]) : ∃ a' c', Held wx b1 (Pat.mk z0 (0#256) z1 z2 [p, emptyP]) a' c' ∧ W0.grownBy wx (some b1) := by
  obtain ⟨W1, v, hown, hat, hg, hx, rfl⟩ := ht
  obtain ⟨g', c', rfl⟩ := own_form hown
  have hg' : b1 < g' := by have := hown.2; rcases hown.2 with ⟨h, _⟩ | ⟨g2, cap, cur, h, hb, _⟩ <;> simp at h; omega
  have hstay : ∀ k, k < W0.heap.size → some k ≠ some b1 → (W1.setCell ⟨b1, 7, none⟩ (.slice (some ⟨g', 0, none⟩) 2 c')).heap[k]? = W0.heap[k]? := fun k hk hne => by
    have hne' : k ≠ b1 := fun e => hne (by rw [e])
    rw [Below.heap_setCell _ _ _ _ (by simpa using hne')]
    exact (hg.block k (Nat.lt_of_lt_of_le hk hg0.size) (by simp; omega)).trans (hg0.block k hk hne)
  refine ⟨some ⟨g', 0, none⟩, c', ⟨?_, ?_⟩, ⟨?_, ?_, ?_, ?_, ?_⟩⟩
  · exact hx.set7 _
  · have hk2 : Kids (mask (W1.setCell ⟨b1, 7, none⟩ (.slice (some ⟨g', 0, none⟩) 2 c')) 0 (some b1)) p.kids (.slice a p.kids.length c) := hk.keep fun k _ h2 h3 => ⟨hstay k h3 h2, Nat.zero_le _, h2⟩
    refine .inr ⟨g', 0, c', rfl, ?_⟩
    unfold RowAt RowAt RowAt
    have hc : ∀ j u, j < 16 → ([.int .i64 p.op, .int .u64 (wd p.set 0), .int .u64 (wd p.set 1), .int .u64 (wd p.set 2), .int .u64 (wd p.set 3), .int .i64 p.lo, .int .i64 p.hi, .slice a p.kids.length c] ++ [.int .i64 (Pat.mk 0 0 0 0 []).op, .int .u64 (wd (Pat.mk 0 0 0 0 []).set 0), .int .u64 (wd (Pat.mk 0 0 0 0 []).set 1), .int .u64 (wd (Pat.mk 0 0 0 0 []).set 2), .int .u64 (wd (Pat.mk 0 0 0 0 []).set 3), .int .i64 (Pat.mk 0 0 0 0 []).lo, .int .i64 (Pat.mk 0 0 0 0 []).hi, .slice none 0 0] : List Value)[j]? = some u → (mask (W1.setCell ⟨b1, 7, none⟩ (.slice (some ⟨g', 0, none⟩) 2 c')) 0 (some b1)).cell? ⟨g', j, none⟩ = some u := fun j u hj hu => by
      refine (mask_cell _ _ _ _ _).2 ⟨⟨Nat.zero_le _, by simp; omega⟩, ?_⟩
      rw [← hu, ← hown.cellAt j (by omega)]
      exact World.cell?_of_block (Below.heap_setCell _ _ _ _ (by simp; omega))
    refine ⟨NodeAt.of hk2 fun j hj => ?_, NodeAt.of (Kids.nil _ none 0) fun j hj => ?_, trivial⟩
    · match j, hj with
      | 0, _ | 1, _ | 2, _ | 3, _ | 4, _ | 5, _ | 6, _ | 7, _ => exact hc _ _ (by omega) rfl
    · match j, hj with
      | 0, _ | 1, _ | 2, _ | 3, _ | 4, _ | 5, _ | 6, _ | 7, _ => exact hc _ _ (by omega) rfl
  · exact (hg.os.trans hg0.os)
  · exact (hg.tape.trans hg0.tape)
  · exact (hg.output.trans hg0.output)
  · exact Nat.le_trans hg0.size (by simpa using hg.size)
  · exact fun k hk hne => hstay k hk hne
end Go.Proofs.Ytnjcefjcpmjdiaa
