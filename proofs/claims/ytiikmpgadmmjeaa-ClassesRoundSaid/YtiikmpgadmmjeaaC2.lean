/- Tables as they lie; the contract of classes.next. -/
import Derived.Test.YtiikmpgadmmjeaaC1
import Derived.Lib.MinMax
set_option maxRecDepth 100000
namespace Go.Proofs.Ytiikmpgadmmjeaa
open Go.RowKit

/-- As numbers lie, at any place. -/
def NumsAt (w : World) (v : Value) (l : List Int) : Prop := ∃ a c, v = .slice a l.length c ∧ ∀ i (h : i < l.length), ∃ b o, a = some ⟨b, o, none⟩ ∧ w.cell? ⟨b, o + i, none⟩ = some (.int .i64 l[i])
/-- As a table lies. -/
def TabAt (w : World) (v : Value) (T : List (List Int)) : Prop := ∃ a c, v = .slice a T.length c ∧ ∀ i (h : i < T.length), ∃ b o rv, a = some ⟨b, o, none⟩ ∧ w.cell? ⟨b, o + i, none⟩ = some rv ∧ NumsAt w rv T[i]
theorem NumsAt.len {w : World} {v : Value} {l : List Int} (h : NumsAt w v l) : ∃ a c, v = .slice a l.length c := by
  obtain ⟨a, c, e, _⟩ := h
  exact ⟨a, c, e⟩
theorem TabAt.len {w : World} {v : Value} {T : List (List Int)} (h : TabAt w v T) : ∃ a c, v = .slice a T.length c := by
  obtain ⟨a, c, e, _⟩ := h
  exact ⟨a, c, e⟩
theorem NumsAt.at {w : World} {v : Value} {l : List Int} {a : Option Addr} {c : Nat} (h : NumsAt w v l) (hv : v = .slice a l.length c) {i : Nat} (hi : i < l.length) : ∃ b o, a = some ⟨b, o, none⟩ ∧ w.cell? ⟨b, o + i, none⟩ = some (.int .i64 l[i]) := by
  obtain ⟨a', c', e, h1⟩ := h
  rw [hv] at e; cases e
  exact h1 i hi
theorem TabAt.at {w : World} {v : Value} {T : List (List Int)} {a : Option Addr} {c : Nat} (h : TabAt w v T) (hv : v = .slice a T.length c) {i : Nat} (hi : i < T.length) : ∃ b o rv, a = some ⟨b, o, none⟩ ∧ w.cell? ⟨b, o + i, none⟩ = some rv ∧ NumsAt w rv T[i] := by
  obtain ⟨a', c', e, h1⟩ := h
  rw [hv] at e; cases e
  exact h1 i hi
theorem NumsAt.below {w w' : World} {v : Value} {l : List Int} (h : NumsAt w v l) (hb : Below w.heap.size w w') : NumsAt w' v l := by
  obtain ⟨a, c, e, h1⟩ := h
  exact ⟨a, c, e, fun i hi => by
    obtain ⟨b, o, e1, e2⟩ := h1 i hi
    exact ⟨b, o, e1, cell_below hb e2⟩⟩
theorem TabAt.below {w w' : World} {v : Value} {T : List (List Int)} (h : TabAt w v T) (hb : Below w.heap.size w w') : TabAt w' v T := by
  obtain ⟨a, c, e, h1⟩ := h
  exact ⟨a, c, e, fun i hi => by
    obtain ⟨b, o, rv, e1, e2, e3⟩ := h1 i hi
    exact ⟨b, o, rv, e1, cell_below hb e2, e3.below hb⟩⟩
/-- What a table may be. -/
def TabOk (T : List (List Int)) : Prop := T.length < 9223372036854775808 ∧ ∀ r ∈ T, r.length < 9223372036854775808 ∧ ∀ x ∈ r, -9223372036854775808 ≤ x ∧ x < 9223372036854775808
/-- Where a table goes from a row by a class. -/
def nextT (T : List (List Int)) (row : Nat) (k : Nat) : Int := if h : row < T.length then (if h' : k < T[row].length then max T[row][k] (-1) else -1) else -1
theorem nextT_far {T : List (List Int)} {row k : Nat} (h : ¬ row < T.length) : nextT T row k = -1 := by unfold nextT; rw [dif_neg h]
theorem nextT_short {T : List (List Int)} {row k : Nat} (h : row < T.length) (h' : ¬ k < T[row].length) : nextT T row k = -1 := by unfold nextT; rw [dif_pos h, dif_neg h']
theorem nextT_at {T : List (List Int)} {row k : Nat} (h : row < T.length) (h' : k < T[row].length) : nextT T row k = max T[row][k] (-1) := by unfold nextT; rw [dif_pos h, dif_pos h']
theorem nextT_ge (T : List (List Int)) (row k : Nat) : -1 ≤ nextT T row k := by
  unfold nextT
  split
  · split <;> omega
  · omega
theorem nextT_lt {T : List (List Int)} (hT : TabOk T) (row k : Nat) : nextT T row k < 9223372036854775808 := by
  unfold nextT
  split
  · rename_i h
    split
    · rename_i h'
      have := (hT.2 T[row] (List.getElem_mem h)).2 T[row][k] (List.getElem_mem h')
      omega
    · omega
  · omega
set_option maxHeartbeats 2000000 in
theorem tnext_any (v : Value) (T : List (List Int)) (row k : Nat) (w : World) (hv : TabAt w v T) (hT : TabOk T) (hk : k < 256) :
    Calls Try.prog 38 #[v, .int .i64 row, .int .u8 k] w fun e w' => e = .returned (.int .i64 (nextT T row k)) ∧ w' = w := by
  obtain ⟨av, cv, rfl⟩ := hv.len
  by_cases h0 : row < T.length
  · obtain ⟨b, o, rv, rfl, e0, hrow⟩ := hv.at rfl h0
    have hrl := (hT.2 T[row] (List.getElem_mem h0)).1
    have hTl := hT.1
    by_cases h1 : k < T[row].length
    · have HN := Lib.hid (nextT_at h0 h1)
      generalize T[row] = l at *
      obtain ⟨ar, cr, rfl⟩ := hrow.len
      obtain ⟨b2, o2, rfl, e1⟩ := hrow.at rfl h1
      have d0 : decide ((row : Int) ≥ T.length) = false := decide_eq_false (by omega)
      have d1 : decide ((T.length : Int) ≤ row) = false := decide_eq_false (by omega)
      have d2 : decide ((k : Int) ≥ l.length) = false := decide_eq_false (by omega)
      have d3 : decide ((l.length : Int) ≤ k) = false := decide_eq_false (by omega)
      have d4 : decide (T.length ≤ row) = false := decide_eq_false (by omega)
      have d5 : decide (l.length ≤ k) = false := decide_eq_false (by omega)
      clear hrow hv hT
      generalize l[k] = x at *
      go_enter Try.func38, Try.ntmps38
      go_wp2
      go_ret
      exact ⟨by rw [HN.out]; rfl, rfl⟩
    · have HN := Lib.hid (nextT_short h0 h1)
      generalize T[row] = l at *
      obtain ⟨ar, cr, rfl⟩ := hrow.len
      have d0 : decide ((row : Int) ≥ T.length) = false := decide_eq_false (by omega)
      have d1 : decide ((T.length : Int) ≤ row) = false := decide_eq_false (by omega)
      have d2 : decide ((k : Int) ≥ l.length) = true := decide_eq_true (by omega)
      have d3 : decide ((l.length : Int) ≤ k) = true := decide_eq_true (by omega)
      have d4 : decide (T.length ≤ row) = false := decide_eq_false (by omega)
      have d5 : decide (l.length ≤ k) = true := decide_eq_true (by omega)
      clear hrow hv hT
      go_enter Try.func38, Try.ntmps38
      go_wp2
      go_ret
      exact ⟨by rw [HN.out]; rfl, rfl⟩
  · have HN := Lib.hid (nextT_far (k := k) h0)
    have hTl := hT.1
    have d0 : decide ((row : Int) ≥ T.length) = true := decide_eq_true (by omega)
    have d1 : decide ((T.length : Int) ≤ row) = true := decide_eq_true (by omega)
    have d4 : decide (T.length ≤ row) = true := decide_eq_true (by omega)
    clear hv hT
    go_enter Try.func38, Try.ntmps38
    go_wp2
    go_ret
    exact ⟨by rw [HN.out]; rfl, rfl⟩
end Go.Proofs.Ytiikmpgadmmjeaa
