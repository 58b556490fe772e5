/- Rows of pairs; contracts of the reference's Rows and Ranges. -/
import Derived.Test.YtocllbdfdmpopaaDoorW7
import Derived.Test.YtocllbdfdmpopaaDoorE
import Derived.Deep.QuietTactic
import Derived.BigQuiet
set_option maxRecDepth 20000
namespace Go.Proofs.YtocllbdfdmpopaaDoor
open Go.RowKit

/-- Block b holds the pairs l, one behind the other. -/
def PairsAt (w : World) (b : Nat) (l : List (Nat × Nat)) : Prop := b < w.heap.size ∧ ∀ i (_ : i < l.length), w.cell? ⟨b, i * 2, none⟩ = some (.int .u8 l[i].1) ∧ w.cell? ⟨b, i * 2 + 1, none⟩ = some (.int .u8 l[i].2)
/-- The slice v reads as l. -/
def Pr (w : World) (v : Value) (l : List (Nat × Nat)) : Prop := l.length ≤ 9223372036854775807 ∧ ((l = [] ∧ ∃ a cap, v = .slice a 0 cap) ∨ ∃ b cap, v = .slice (some ⟨b, 0, none⟩) l.length cap ∧ PairsAt w b l)
theorem PairsAt.lower {w w' : World} {b B : Nat} {l : List (Nat × Nat)} (h : PairsAt w b l) (hb : Below B w w') (hB : b < B) : PairsAt w' b l :=
  ⟨Nat.lt_of_lt_of_le h.1 hb.size, fun i hi => by rw [hb.cell (p := ⟨b, _, none⟩) hB, hb.cell (p := ⟨b, _, none⟩) hB]; exact h.2 i hi⟩
theorem Pr.below {w w' : World} {v : Value} {l : List (Nat × Nat)} (h : Pr w v l) (hb : Below w.heap.size w w') : Pr w' v l := by
  rcases h with ⟨h0, h | ⟨b, cap, hv, h⟩⟩
  · exact ⟨h0, .inl h⟩
  · exact ⟨h0, .inr ⟨b, cap, hv, h.lower hb h.1⟩⟩
theorem flat_at (l : List (Nat × Nat)) : ∀ i (_ : i < l.length), (flat l)[i * 2]? = some (.int .u8 l[i].1) ∧ (flat l)[i * 2 + 1]? = some (.int .u8 l[i].2) := by
  induction l with
  | nil => intro i hi; simp at hi
  | cons q l ih =>
    intro i hi
    have e : flat (q :: l) = [Value.int .u8 q.1, Value.int .u8 q.2] ++ flat l := rfl
    cases i with
    | zero => rw [e]; simp
    | succ i =>
      have := ih i (by simpa using hi)
      have e1 : (i + 1) * 2 = i * 2 + 2 := by omega
      rw [e, e1]
      simpa using this
theorem pr_of_row {w : World} {base : Nat} {v : Value} {l : List (Nat × Nat)} (hl : l.length ≤ 9223372036854775807) (h : w.ownsRow base 44 2 v l.length (flat l)) : Pr w v l := by
  refine ⟨hl, ?_⟩
  rcases h.2 with ⟨rfl, h0⟩ | ⟨g, cap, cur, rfl, hg, hgb, h1, h2, h3, h4⟩
  · exact .inl ⟨List.eq_nil_of_length_eq_zero h0, _, _, rfl⟩
  · refine .inr ⟨g, cap, rfl, (Array.getElem?_eq_some_iff.1 hgb).1, fun i hi => ?_⟩
    have f := flat_at l i hi
    exact ⟨by rw [h.cellAt _ (by omega)]; exact f.1, by rw [h.cellAt _ (by omega)]; exact f.2⟩
set_option maxHeartbeats 1000000 in
theorem rows_same (v1 v2 : Value) (l : List (Nat × Nat)) (w : World) (h1 : Pr w v1 l) (h2 : Pr w v2 l) :
    Calls Tryd.prog 15 #[v1, v2] w fun e w' => e = .returned (.bool true) ∧ Below w.heap.size w w' := by
  obtain ⟨hlen, h1⟩ := h1
  obtain ⟨_, h2⟩ := h2
  rcases h1 with ⟨rfl, a1, cap1, rfl⟩ | ⟨b1, cap1, rfl, h1⟩
  · obtain ⟨a2, cap2, rfl⟩ : ∃ a2 cap2, v2 = .slice a2 0 cap2 := by
      rcases h2 with ⟨_, a, c, e⟩ | ⟨b, c, e, _⟩
      · exact ⟨a, c, e⟩
      · exact ⟨_, c, e⟩
    go_enter Tryd.func15, Tryd.ntmps15
    go_wp2
    refine wp_loop_rounds 1 ?_
    rw [rounds_succ]; go_wp2
    go_ret
    exact ⟨rfl, Below.refl _ _⟩
  · rcases h2 with ⟨rfl, a2, cap2, rfl⟩ | ⟨b2, cap2, rfl, h2⟩
    · go_enter Tryd.func15, Tryd.ntmps15
      go_wp2
      refine wp_loop_rounds 1 ?_
      rw [rounds_succ]; go_wp2
      go_ret
      exact ⟨rfl, Below.refl _ _⟩
    · have hne : ((l.length : Int) != (l.length : Int)) = false := by simp
      go_enter Tryd.func15, Tryd.ntmps15
      go_wp2
      go_loopw [5] (fun i wr => ∃ k : Nat, k ≤ l.length ∧ i = .int .i64 k ∧ Below w.heap.size w wr) (fun i _ => l.length - (intOf i).toNat)
      case atStart => exact ⟨0, by omega, rfl, Below.refl _ _⟩
      case round =>
        obtain ⟨k, hk, rfl, hbw⟩ := hrel
        by_cases hlt : k < l.length
        · obtain ⟨c0, c1⟩ := (h1.lower hbw h1.1).2 k hlt
          obtain ⟨d0, d1⟩ := (h2.lower hbw h2.1).2 k hlt
          have hq := eq_pair_same l[k].1 l[k].2
          go_wp2
          go_quiet (fail)
          go_wp2
          go_roundw
          case rel => exact ⟨k + 1, by omega, num_succ k, below_drewN hbw _⟩
          case measure => simp [intOf]; omega
        · go_wp2
          go_ret
          exact ⟨rfl, hbw⟩
end Go.Proofs.YtocllbdfdmpopaaDoor
