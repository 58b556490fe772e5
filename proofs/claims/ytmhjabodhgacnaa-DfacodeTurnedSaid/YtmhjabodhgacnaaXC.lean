/- Contracts: whether arcs, and a machine, may be. -/
import Derived.Test.YtmhjabodhgacnaaXB
set_option maxRecDepth 100000
namespace Go.Proofs.Ytmhjabodhgacnaa
open Go.RowKit

theorem isState_any (n s : Int) (w : World) : Calls Try.prog 37 #[.int .i64 n, .int .i64 s] w fun e w' => e = .returned (.bool (decide (0 ≤ n) && decide (n < s))) ∧ w' = w := by
  cases h0 : decide (0 ≤ n) <;> cases h1 : decide (n < s)
  all_goals
    go_enter Try.func37, Try.ntmps37
    go_wp2
    go_ret
    exact ⟨rfl, rfl⟩
/-- An arc's cells. -/
def arcV (a : Arc3) : Value := .agg #[.int .u8 a.lo, .int .u8 a.hi, .int .i64 a.dest]
theorem follows_any (x y : Arc3) (hx : x.lo < 256 ∧ x.hi < 256) (hy : y.lo < 256 ∧ y.hi < 256) (w : World) : Calls Try.prog 38 #[arcV x, arcV y] w fun e w' => e = .returned (.bool (behindB x y)) ∧ Below w.heap.size w w' := by
  obtain ⟨xl, xh, xt⟩ := x
  obtain ⟨yl, yh, yt⟩ := y
  simp only at hx hy
  have hb2 := below2 w (.cells #[.int .u8 xl, .int .u8 xh, .int .i64 xt] 69) (.cells #[.int .u8 yl, .int .u8 yh, .int .i64 yt] 69)
  have HB := Lib.hid hb2
  clear hb2
  unfold arcV behindB
  simp only
  by_cases h1 : xh + 1 < yl
  · have d1 : decide ((yl : Int) - xh > 1) = true := decide_eq_true (by omega)
    have d2 : decide ((1 : Int) < (yl : Int) - xh) = true := decide_eq_true (by omega)
    have HR : Hid ((decide (xh + 1 < yl) || (decide (xh + 1 = yl) && decide (yt ≠ xt))) = true) := Lib.hid (by simp [h1])
    clear h1
    go_enter Try.func38, Try.ntmps38
    go_wp2
    go_ret
    exact ⟨by rw [HR.out]; rfl, HB.out⟩
  · have d1 : decide ((yl : Int) - xh > 1) = false := decide_eq_false (by omega)
    have d2 : decide ((1 : Int) < (yl : Int) - xh) = false := decide_eq_false (by omega)
    by_cases h2 : xh + 1 = yl
    · have d3 : ((yl : Int) - xh == 1) = true := by rw [beq_iff_eq]; omega
      have HR : Hid ((decide (xh + 1 < yl) || (decide (xh + 1 = yl) && decide (yt ≠ xt))) = (yt != xt)) := Lib.hid (by rw [decide_eq_false h1, decide_eq_true h2]; by_cases h3 : yt = xt <;> simp [h3])
      clear h1 h2
      go_enter Try.func38, Try.ntmps38
      go_wp2
      go_ret
      exact ⟨by rw [HR.out]; rfl, HB.out⟩
    · have d3 : ((yl : Int) - xh == 1) = false := by rw [beq_eq_false_iff_ne]; omega
      have HR : Hid ((decide (xh + 1 < yl) || (decide (xh + 1 = yl) && decide (yt ≠ xt))) = false) := Lib.hid (by simp [h1, h2])
      clear h1 h2
      go_enter Try.func38, Try.ntmps38
      go_wp2
      go_ret
      exact ⟨by rw [HR.out]; rfl, HB.out⟩
theorem ArcsAt.len {w : World} {v : Value} {l : List Arc3} (h : ArcsAt w v l) : ∃ a c, v = .slice a l.length c := by
  obtain ⟨a, c, e, _⟩ := h
  exact ⟨a, c, e⟩
theorem MachAt.len {w : World} {v : Value} {m : List Sta} (h : MachAt w v m) : ∃ a c, v = .slice a m.length c := by
  obtain ⟨a, c, e, _⟩ := h
  exact ⟨a, c, e⟩
end Go.Proofs.Ytmhjabodhgacnaa
