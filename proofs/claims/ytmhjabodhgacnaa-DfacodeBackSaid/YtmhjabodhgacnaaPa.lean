/- An append of nothing. -/
import Derived.Test.YtmhjabodhgacnaaPZ
set_option maxRecDepth 100000
namespace Go.Proofs.Ytmhjabodhgacnaa
open Go.RowKit

theorem run_append_zero (w : World) (ty : TypeId) (a a2 : Option Addr) (n c c2 : Nat) (hn : n ≤ c) : (Builtin.append_ #[25, 25] ty #[.slice a n c, .slice a2 0 c2]).run Try.prog w = .ok (.slice a n c) w := by
  obtain ⟨i0, hi0, hz0, hz1, hz2⟩ := info_parts infoU8
  cases a <;> cases a2 <;> simp [Builtin.append_, run_underlying Try.underlying25, sizeOf, typeInfo, hi0, Builtin.lenOf, hn, Builtin.firstCells, loadCellsFrom, storeCells, loadCells]
theorem wpList_append_zero {w : World} {ops : Array Oper} {rest : List Oper} {o : Oper} {a : Act} {Q : Exit → Act → World → Prop} (hgd : o.guard = none) (s x : Operand)
    (ho : o.op = .call { callee := .builtin .append, args := #[s, x], argTypes := #[25, 25] }) (b b2 : Option Addr) (n c c2 : Nat) (hs : a.eval s = .slice b n c) (hx : a.eval x = .slice b2 0 c2) (hn : n ≤ c)
    (h : wpList Try.prog ops Q rest (a.put o.dst (.slice b n c)) w) : wpList Try.prog ops Q (o :: rest) a w := by
  refine wpList_plain hgd fun K hK => ?_
  have hrun := run_append_zero w o.type b b2 n c c2 hn
  unfold Oper.wp
  simp [execOp, ho, resolve, invoke, builtin, hs, hx, hrun, Result.andThen]
  exact hK _ _ h
end Go.Proofs.Ytmhjabodhgacnaa
