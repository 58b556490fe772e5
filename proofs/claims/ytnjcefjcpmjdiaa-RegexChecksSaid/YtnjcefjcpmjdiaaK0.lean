/- Make, as the laws' walks want it. -/
import Derived.Test.YtnjcefjcpmjdiaaF3
import Derived.Test.YtnjcefjcpmjdiaaD9
set_option maxRecDepth 20000
namespace Go.Proofs.Ytnjcefjcpmjdiaa
open Go.RowKit

theorem make_p (s : ByteArray) (w : World) (hlen : s.size ≤ 60) : Calls Try.prog 9 #[.string s] w fun e w' => ∃ (p : Pat) (a : Option Addr) (c : Nat), e = .returned (.agg #[.int .i64 p.op, .int .u64 (wd p.set 0), .int .u64 (wd p.set 1), .int .u64 (wd p.set 2), .int .u64 (wd p.set 3), .int .i64 p.lo, .int .i64 p.hi, .slice a p.kids.length c]) ∧ Kids w' p.kids (.slice a p.kids.length c) ∧ p.size < 100 ∧ p.ok = true ∧ Below w.heap.size w w' := by
  refine (make_any s w (by omega)).mono ?_
  rintro e w' ⟨p, ks, rfl, hk, hs, hok, hb⟩
  obtain ⟨a1, c1, rfl⟩ := hk.len
  exact ⟨p, a1, c1, rfl, hk, by omega, hok, hb⟩
end Go.Proofs.Ytnjcefjcpmjdiaa
