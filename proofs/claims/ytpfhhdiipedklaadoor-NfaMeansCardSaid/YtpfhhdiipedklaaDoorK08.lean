/- Texts that a proof rests on: The contract of Ranges. -/
import Derived.Test.YtpfhhdiipedklaaDoorK07
import Derived.WalkSmall
set_option maxRecDepth 100000
namespace Go.Proofs.YtpfhhdiipedklaaDoor
open Go.RowKit Go.Shelf
attribute [local go_sem] Oper.semAt_some

theorem keepSets_alloc {n₀ : Nat} {W : World} (h : n₀ ≤ W.heap.size) (o : Obj) : KeepSets n₀ W (W.alloc o) :=
  ⟨(Below.refl _ _).alloc h _, fun k _ _ hk => (Below.heap_alloc _ _ k (Array.getElem?_eq_some_iff.1 hk).1).trans hk⟩
theorem keepSets_setCell {n₀ B : Nat} {t : TypeId} {W : World} {v : Value} (hb : Boxed W B t v) (ht : t ≠ 33) (h : n₀ ≤ B) (u : Value) : KeepSets n₀ W (W.setCell ⟨B, 0, none⟩ u) :=
  ⟨(Below.refl _ _).setCell (p := ⟨B, 0, none⟩) h _, fun k c fz hk => by
    by_cases e : k = B
    · subst e; unfold Boxed at hb; rw [hb] at hk; cases hk; exact absurd rfl ht
    · rw [Below.heap_setCell _ _ _ _ e]; exact hk⟩
theorem keepSets_grown {n₀ size : Nat} {e : TypeId} {W W' : World} {v : Value} {k : Nat} {xs : List Value} (hr : W.ownsRow n₀ e size v k xs) (he : e ≠ 33) (hg : W.grownBy W' v.ownBlock) (h : n₀ ≤ W.heap.size) : KeepSets n₀ W W' :=
  ⟨(Below.refl _ _).grown hg h (fun j ej => (hr.lt j ej).1), fun j c fz hj => by
    rw [hg.block j (Array.getElem?_eq_some_iff.1 hj).1 (fun ej => ?_)]
    · exact hj
    · rcases hr.2 with ⟨rfl, _⟩ | ⟨g, cap, cur, rfl, _, hgb, _⟩
      · simp [Value.ownBlock] at ej
      · obtain rfl : j = g := by simpa [Value.ownBlock] using ej
        rw [hgb] at hj; cases hj; exact he rfl⟩
/-- Pairs, cell by cell. -/
def flat (l : List (Nat × Nat)) : List Value := l.flatMap (fun q => [Value.int .u8 q.1, Value.int .u8 q.2])
theorem flat_snoc (l : List (Nat × Nat)) (x : Nat × Nat) : flat (l ++ [x]) = flat l ++ [.int .u8 x.1, .int .u8 x.2] := by simp [flat]
theorem flat_length (l : List (Nat × Nat)) : (flat l).length = l.length * 2 := by
  induction l with
  | nil => rfl
  | cons q l ih => simp [flat] at ih ⊢; omega
end Go.Proofs.YtpfhhdiipedklaaDoor
