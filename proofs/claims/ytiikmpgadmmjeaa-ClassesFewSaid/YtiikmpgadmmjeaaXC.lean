/- Contracts: whether arcs, and a machine, may be. -/
import Derived.Test.YtiikmpgadmmjeaaXB
set_option maxRecDepth 100000
namespace Go.Proofs.Ytiikmpgadmmjeaa
open Go.RowKit

theorem isState_any (n s : Int) (w : World) : Calls Try.prog 41 #[.int .i64 n, .int .i64 s] w fun e w' => e = .returned (.bool (decide (0 ≤ n) && decide (n < s))) ∧ w' = w := by
  cases h0 : decide (0 ≤ n) <;> cases h1 : decide (n < s)
  all_goals
    go_enter Try.func41, Try.ntmps41
    go_wp2
    go_ret
    exact ⟨rfl, rfl⟩
/-- An arc's cells. -/
def arcV (a : Arc3) : Value := .agg #[.int .u8 a.lo, .int .u8 a.hi, .int .i64 a.dest]
theorem ArcsAt.len {w : World} {v : Value} {l : List Arc3} (h : ArcsAt w v l) : ∃ a c, v = .slice a l.length c := by
  obtain ⟨a, c, e, _⟩ := h
  exact ⟨a, c, e⟩
theorem MachAt.len {w : World} {v : Value} {m : List Sta} (h : MachAt w v m) : ∃ a c, v = .slice a m.length c := by
  obtain ⟨a, c, e, _⟩ := h
  exact ⟨a, c, e⟩
end Go.Proofs.Ytiikmpgadmmjeaa
