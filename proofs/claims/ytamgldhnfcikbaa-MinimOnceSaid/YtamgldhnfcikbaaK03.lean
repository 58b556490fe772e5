/- Texts that a proof rests on: Regions that draw, under a condition that an operation which waits for all others need not keep. | Regions that draw and only read: all operations keep the condition. -/
import Derived.OrdersHeld
import Derived.Deep.RegionHeld
import Derived.Test.YtamgldhnfcikbaaProg
set_option maxRecDepth 100000
namespace Go.Proofs.Ytamgldhnfcikbaa
open Go
section
variable {P : Program} {ops : Array Oper} {Q : Exit → Act → World → Prop} {md : Region.Mode} {S : World → Prop} {z : Nat}

def Goes (P : Program) (md : Region.Mode) (ops : Array Oper) (Q : Exit → Act → World → Prop) (S : World → Prop) (z : Nat) : Nat → Array Bool → Act → World → Prop
  | 0, l, a, w => wpAny P md ops Q 0 l a w
  | n + 1, l, a, w => (Region.ready md ops l = [] → Q .normal a w) ∧ ∀ j ∈ Region.ready md ops l, wpOp P ops Q j (fun a' w' => (j ≠ z → S w') ∧ Goes P md ops Q S z n (l.setIfInBounds j true) a' w') a w
theorem Goes.any : ∀ {n : Nat} {l : Array Bool} {a : Act} {w : World}, Goes P md ops Q S z n l a w → wpAny P md ops Q n l a w
  | 0, _, _, _, h => h
  | _ + 1, _, _, _, h => ⟨h.1, fun j hj => wpOp_mono (fun _ _ k => Goes.any k.2) (h.2 j hj)⟩
theorem waits_not {i j : Nat} {l : Array Bool} {oj : Oper} (hi : i ∈ Region.ready md ops l) (hj : j ∈ Region.ready md ops l) (hoj : ops[j]? = some oj) : ∀ e ∈ oj.after, Region.binds md e = true → e.on ≠ i := by
  rintro e he hb rfl
  obtain ⟨_, o, ho, hall⟩ := mem_ready.1 hj
  rw [hoj] at ho
  cases ho
  have h1 := hall e he hb
  have h0 := (mem_ready.1 hi).1
  rw [Array.getD_eq_getD_getElem?] at h0 h1
  cases h2 : l[e.on]? with
  | none => rw [h2] at h1; cases h1
  | some b => rw [h2] at h0 h1; simp at h0 h1; rw [h0] at h1; cases h1
theorem goes_first {i : Nat} {oi : Oper} {v : Value} (hi : ops[i]? = some oi) (hsel : ∀ (j : Nat) (o : Oper) cs b, ops[j]? = some o → o.op ≠ .select cs b) (hQ : ∀ c a w, Q (.panic c) (a.put oi.dst v) w → Q (.panic c) a w)
    (hz : ∃ oz, ops[z]? = some oz ∧ ∃ e ∈ oz.after, Region.binds md e = true ∧ e.on = i) :
    ∀ (n : Nat) (l : Array Bool) (a : Act) (w : World), (∀ j oj, ops[j]? = some oj → j ≠ i → l.getD j true = false → (∀ e ∈ oj.after, Region.binds md e = true → e.on ≠ i) → oi.apart ops oj = true) →
      i ∈ Region.ready md ops l → YieldsIf P ops S oi v a → S w → Goes P md ops Q S z n (l.setIfInBounds i true) (a.put oi.dst v) w → Goes P md ops Q S z (n + 1) l a w := by
  obtain ⟨oz, hoz, ez, hez, hbz, hiz⟩ := hz
  have hnz : ∀ {l : Array Bool} {j : Nat}, i ∈ Region.ready md ops l → j ∈ Region.ready md ops l → j ≠ z := fun h1 h2 e => by
    subst e
    exact waits_not h1 h2 hoz ez hez hbz hiz
  intro n
  induction n with
  | zero =>
    intro l a w _ hr hy hS H
    refine ⟨fun h => (by rw [h] at hr; cases hr), fun j hj => ?_⟩
    rcases Nat.decEq j i with hne | rfl
    · exact absurd (ready_mono hj hne) (by rw [(show Region.ready md ops (l.setIfInBounds i true) = [] from H.1)]; simp)
    · exact hy.wpOp hi hS ⟨fun _ => hS, H⟩
  | succ n ih =>
    intro l a w hfree hr hy hS H
    refine ⟨fun h => (by rw [h] at hr; cases hr), fun j hj => ?_⟩
    rcases Nat.decEq j i with hne | rfl
    · obtain ⟨hju, oj, hoj, _⟩ := mem_ready.1 hj
      refine wpOp_mono ?_ (wpOp_putIf hoj (hfree j oj hoj hne hju (waits_not hr hj hoj)) (fun cs b => hsel i oi cs b hi) (fun cs b => hsel j oj cs b hoj) hQ hy (H.2 j (ready_mono hj hne)))
      rintro a' w' ⟨hy', hS', hG⟩
      have hS' := hS' (hnz hr hj)
      rw [Array.setIfInBounds_comm _ _ (Ne.symm hne)] at hG
      refine ⟨fun _ => hS', ih _ a' w' (fun k ok hk hki hun hno => hfree k ok hk hki ?_ hno) (ready_mono hr (Ne.symm hne)) hy' hS' hG⟩
      rcases Nat.decEq j k with hjk | rfl
      · rwa [getD_set_ne true hjk] at hun
      · exact hju
    · exact hy.wpOp hi hS ⟨fun _ => hS, H⟩
def waitsB (md : Region.Mode) (ops : Array Oper) (z i : Nat) : Bool := ((ops[z]?).map (fun o => o.after.toList.any (fun e => Region.binds md e && e.on == i))).getD false
theorem goes_take {i : Nat} {oi : Oper} {v : Value} {n : Nat} {l : Array Bool} {a : Act} {w : World} (hi : ops[i]? = some oi) (hs : Region.noSelect ops = true) (hf : Region.free md ops l i = true) (hr : (Region.ready md ops l).contains i = true)
    (hw : waitsB md ops z i = true) (hQ : ∀ c a w, Q (.panic c) (a.put oi.dst v) w → Q (.panic c) a w) (hy : YieldsIf P ops S oi v a) (hS : S w)
    (h : Goes P md ops Q S z n (l.setIfInBounds i true) (a.put oi.dst v) w) : Goes P md ops Q S z (n + 1) l a w := by
  refine goes_first hi (Region.noSelect_spec hs) hQ ?_ n l a w (Region.free_spec hi hf) (by simpa using hr) hy hS h
  unfold waitsB at hw
  cases e : ops[z]? with
  | none => rw [e] at hw; cases hw
  | some o =>
    rw [e] at hw
    simp only [Option.map_some, Option.getD_some, List.any_eq_true, Bool.and_eq_true, beq_iff_eq] at hw
    obtain ⟨x, h1, h2, h3⟩ := hw
    exact ⟨o, rfl, x, by simpa using h1, h2, h3⟩
theorem goes_one {n i : Nat} {l : Array Bool} {a : Act} {w : World} {o : Oper} (hr : Region.ready md ops l = [i]) (ho : ops[i]? = some o)
    (h : ∀ K' : Act → World → Prop, Shut (∀ a w, (i ≠ z → S w) → ((i ≠ z → S w) → Goes P md ops Q S z n (l.setIfInBounds i true) a w) → K' a w) → if Region.wanted o (yielded ops a.tmps) = true then Oper.wp P o a w K' Q else K' (a.put o.dst undef) w) : Goes P md ops Q S z (n + 1) l a w := by
  refine ⟨fun h0 => (by rw [hr] at h0; cases h0), fun j hj => ?_⟩
  rw [hr, List.mem_singleton] at hj
  subst hj
  exact wpOp_step ho fun K' hK => h K' fun a w h1 h2 => hK a w ⟨h1, h2 h1⟩
theorem goes_done {l : Array Bool} {a : Act} {w : World} (hr : Region.ready md ops l = []) (h : Q .normal a w) : ∀ n, Goes P md ops Q S z n l a w
  | 0 => ⟨hr, h⟩
  | _ + 1 => ⟨fun _ => h, by rw [hr]; simp⟩
theorem region_goes {id : Nat} {ops : List Oper} {a : Act} {w : World} (z N : Nat) (hN : ops.length = N) (S : World → Prop) (hm : P.follows .mixedOrders = true) (hS : S w.drew)
    (h : S w.drew → Goes P .any ops.toArray Q S z N (Array.replicate N false) a w.drew) : (Code.region id ops.toArray true).wp P Q a w := by
  subst hN
  exact wp_region_any hm (Goes.any (by simpa using h hS))
end
end Go.Proofs.Ytamgldhnfcikbaa
set_option maxRecDepth 100000
namespace Go.Proofs.Ytamgldhnfcikbaa
open Go
section
variable {P : Program} {ops : Array Oper} {Q : Exit → Act → World → Prop} {md : Region.Mode} {S : World → Prop} {z : Nat}

theorem goes_first0 {i : Nat} {oi : Oper} {v : Value} (hi : ops[i]? = some oi) (hsel : ∀ (j : Nat) (o : Oper) cs b, ops[j]? = some o → o.op ≠ .select cs b) (hQ : ∀ c a w, Q (.panic c) (a.put oi.dst v) w → Q (.panic c) a w)
    (hz : ops[z]? = none) :
    ∀ (n : Nat) (l : Array Bool) (a : Act) (w : World), (∀ j oj, ops[j]? = some oj → j ≠ i → l.getD j true = false → (∀ e ∈ oj.after, Region.binds md e = true → e.on ≠ i) → oi.apart ops oj = true) →
      i ∈ Region.ready md ops l → YieldsIf P ops S oi v a → S w → Goes P md ops Q S z n (l.setIfInBounds i true) (a.put oi.dst v) w → Goes P md ops Q S z (n + 1) l a w := by
  have hnz : ∀ {l : Array Bool} {j : Nat}, j ∈ Region.ready md ops l → j ≠ z := fun h2 e => by
    subst e
    obtain ⟨_, o, ho, _⟩ := mem_ready.1 h2
    rw [hz] at ho; cases ho
  intro n
  induction n with
  | zero =>
    intro l a w _ hr hy hS H
    refine ⟨fun h => (by rw [h] at hr; cases hr), fun j hj => ?_⟩
    rcases Nat.decEq j i with hne | rfl
    · exact absurd (ready_mono hj hne) (by rw [(show Region.ready md ops (l.setIfInBounds i true) = [] from H.1)]; simp)
    · exact hy.wpOp hi hS ⟨fun _ => hS, H⟩
  | succ n ih =>
    intro l a w hfree hr hy hS H
    refine ⟨fun h => (by rw [h] at hr; cases hr), fun j hj => ?_⟩
    rcases Nat.decEq j i with hne | rfl
    · obtain ⟨hju, oj, hoj, _⟩ := mem_ready.1 hj
      refine wpOp_mono ?_ (wpOp_putIf hoj (hfree j oj hoj hne hju (waits_not hr hj hoj)) (fun cs b => hsel i oi cs b hi) (fun cs b => hsel j oj cs b hoj) hQ hy (H.2 j (ready_mono hj hne)))
      rintro a' w' ⟨hy', hS', hG⟩
      have hS' := hS' (hnz hj)
      rw [Array.setIfInBounds_comm _ _ (Ne.symm hne)] at hG
      refine ⟨fun _ => hS', ih _ a' w' (fun k ok hk hki hun hno => hfree k ok hk hki ?_ hno) (ready_mono hr (Ne.symm hne)) hy' hS' hG⟩
      rcases Nat.decEq j k with hjk | rfl
      · rwa [getD_set_ne true hjk] at hun
      · exact hju
    · exact hy.wpOp hi hS ⟨fun _ => hS, H⟩
theorem goes_take0 {i : Nat} {oi : Oper} {v : Value} {n : Nat} {l : Array Bool} {a : Act} {w : World} (hi : ops[i]? = some oi) (hs : Region.noSelect ops = true) (hf : Region.free md ops l i = true) (hr : (Region.ready md ops l).contains i = true)
    (hz : ops[z]? = none) (hQ : ∀ c a w, Q (.panic c) (a.put oi.dst v) w → Q (.panic c) a w) (hy : YieldsIf P ops S oi v a) (hS : S w)
    (h : Goes P md ops Q S z n (l.setIfInBounds i true) (a.put oi.dst v) w) : Goes P md ops Q S z (n + 1) l a w :=
  goes_first0 hi (Region.noSelect_spec hs) hQ hz n l a w (Region.free_spec hi hf) (by simpa using hr) hy hS h
end
end Go.Proofs.Ytamgldhnfcikbaa
