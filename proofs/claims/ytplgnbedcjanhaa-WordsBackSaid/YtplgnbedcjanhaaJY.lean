/- Regions that draw and only read: all operations keep the condition. -/
import Derived.Test.YtplgnbedcjanhaaJX
set_option maxRecDepth 100000
namespace Go.Proofs.Ytplgnbedcjanhaa
open Go
section
variable {P : Program} {ops : Array Oper} {Q : Exit → Act → World → Prop} {md : Region.Mode} {S : World → Prop} {z : Nat}

theorem goes_first0 {i : Nat} {oi : Oper} {v : Value} (hi : ops[i]? = some oi) (hsel : ∀ (j : Nat) (o : Oper) cs b, ops[j]? = some o → o.op ≠ .select cs b) (hQ : ∀ c a w, Q (.panic c) (a.put oi.dst v) w → Q (.panic c) a w)
    (hz : ops[z]? = none) :
    ∀ (n : Nat) (l : Array Bool) (a : Act) (w : World), (∀ j oj, ops[j]? = some oj → j ≠ i → l.getD j true = false → (∀ e ∈ oj.after, Region.binds md e = true → e.on ≠ i) → oi.apart ops oj = true) →
      i ∈ Region.ready md ops l → YieldsIf P ops S oi v a → S w → Goes P md ops Q S z n (l.setIfInBounds i true) (a.put oi.dst v) w → Goes P md ops Q S z (n + 1) l a w := by
  have hnz : ∀ {l : Array Bool} {j : Nat}, j ∈ Region.ready md ops l → j ≠ z := fun h2 e => by
    subst e
    obtain ⟨_, o, ho, _⟩ := mem_ready.1 h2
    rw [hz] at ho; cases ho
  intro n
  induction n with
  | zero =>
    intro l a w _ hr hy hS H
    refine ⟨fun h => (by rw [h] at hr; cases hr), fun j hj => ?_⟩
    rcases Nat.decEq j i with hne | rfl
    · exact absurd (ready_mono hj hne) (by rw [(show Region.ready md ops (l.setIfInBounds i true) = [] from H.1)]; simp)
    · exact hy.wpOp hi hS ⟨fun _ => hS, H⟩
  | succ n ih =>
    intro l a w hfree hr hy hS H
    refine ⟨fun h => (by rw [h] at hr; cases hr), fun j hj => ?_⟩
    rcases Nat.decEq j i with hne | rfl
    · obtain ⟨hju, oj, hoj, _⟩ := mem_ready.1 hj
      refine wpOp_mono ?_ (wpOp_putIf hoj (hfree j oj hoj hne hju (waits_not hr hj hoj)) (fun cs b => hsel i oi cs b hi) (fun cs b => hsel j oj cs b hoj) hQ hy (H.2 j (ready_mono hj hne)))
      rintro a' w' ⟨hy', hS', hG⟩
      have hS' := hS' (hnz hj)
      rw [Array.setIfInBounds_comm _ _ (Ne.symm hne)] at hG
      refine ⟨fun _ => hS', ih _ a' w' (fun k ok hk hki hun hno => hfree k ok hk hki ?_ hno) (ready_mono hr (Ne.symm hne)) hy' hS' hG⟩
      rcases Nat.decEq j k with hjk | rfl
      · rwa [getD_set_ne true hjk] at hun
      · exact hju
    · exact hy.wpOp hi hS ⟨fun _ => hS, H⟩
theorem goes_take0 {i : Nat} {oi : Oper} {v : Value} {n : Nat} {l : Array Bool} {a : Act} {w : World} (hi : ops[i]? = some oi) (hs : Region.noSelect ops = true) (hf : Region.free md ops l i = true) (hr : (Region.ready md ops l).contains i = true)
    (hz : ops[z]? = none) (hQ : ∀ c a w, Q (.panic c) (a.put oi.dst v) w → Q (.panic c) a w) (hy : YieldsIf P ops S oi v a) (hS : S w)
    (h : Goes P md ops Q S z n (l.setIfInBounds i true) (a.put oi.dst v) w) : Goes P md ops Q S z (n + 1) l a w :=
  goes_first0 hi (Region.noSelect_spec hs) hQ hz n l a w (Region.free_spec hi hf) (by simpa using hr) hy hS h
end
end Go.Proofs.Ytplgnbedcjanhaa
