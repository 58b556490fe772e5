/- Contracts: whether arcs, and a machine, may be. -/
import Derived.Test.YtiikmpgadmmjeaaXC
set_option maxRecDepth 100000
namespace Go.Proofs.Ytiikmpgadmmjeaa
open Go.RowKit

theorem ArcsAt.at {w : World} {v : Value} {l : List Arc3} {a : Option Addr} {c : Nat} (h : ArcsAt w v l) (hv : v = .slice a l.length c) {i : Nat} (hi : i < l.length) : ∃ b o, a = some ⟨b, o, none⟩ ∧ w.cell? ⟨b, o + i * 3, none⟩ = some (.int .u8 l[i].lo) ∧ w.cell? ⟨b, o + i * 3 + 1, none⟩ = some (.int .u8 l[i].hi) ∧ w.cell? ⟨b, o + i * 3 + 2, none⟩ = some (.int .i64 l[i].dest) := by
  obtain ⟨a', c', e, h1⟩ := h
  rw [hv] at e; cases e
  exact h1 i hi
theorem MachAt.at {w : World} {v : Value} {m : List Sta} {a : Option Addr} {c : Nat} (h : MachAt w v m) (hv : v = .slice a m.length c) {i : Nat} (hi : i < m.length) : ∃ b o av, a = some ⟨b, o, none⟩ ∧ w.cell? ⟨b, o + i * 2, none⟩ = some (.int .u64 m[i].acc) ∧ w.cell? ⟨b, o + i * 2 + 1, none⟩ = some av ∧ ArcsAt w av m[i].arcs := by
  obtain ⟨a', c', e, h1⟩ := h
  rw [hv] at e; cases e
  exact h1 i hi
theorem check_not {m : List Sta} {i : Nat} (hi : i < m.length) (h : fitsB m.length m[i].arcs = false) : checkB m = false := by
  rw [Bool.eq_false_iff]
  intro h1
  unfold checkB at h1
  rw [Bool.and_eq_true, List.all_eq_true] at h1
  rw [h1.2 _ (List.getElem_mem hi)] at h
  cases h
theorem check_yes {m : List Sta} (hl : m.length ≤ 4096) (h : ∀ i (hi : i < m.length), fitsB m.length m[i].arcs = true) : checkB m = true := by
  unfold checkB
  rw [Bool.and_eq_true, List.all_eq_true]
  refine ⟨decide_eq_true hl, fun s hs => ?_⟩
  obtain ⟨i, hi, rfl⟩ := List.getElem_of_mem hs
  exact h i hi
theorem check_big {m : List Sta} (hl : ¬ m.length ≤ 4096) : checkB m = false := by
  unfold checkB
  rw [decide_eq_false hl]; rfl
/-- What a machine's numbers are. -/
def Mays (m : List Sta) : Prop := ∀ s ∈ m, s.may
def errV (b : Bool) : Int := if b then 0 else 110
end Go.Proofs.Ytiikmpgadmmjeaa
