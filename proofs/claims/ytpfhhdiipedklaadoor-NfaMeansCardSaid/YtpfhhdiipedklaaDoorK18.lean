/- Texts that a proof rests on: Contract of homographref02.Same. | Contracts of regex: Null, and slices.IndexFunc, ContainsFunc under it; Same, and slices.EqualFunc under it. -/
import Derived.Test.YtpfhhdiipedklaaDoorK09
import Derived.Deep.RegionWith
import Derived.Deep.QuietTactic
import Derived.Test.YtpfhhdiipedklaaDoorK15
set_option maxRecDepth 20000
namespace Go.Proofs.YtpfhhdiipedklaaDoor
open Go.RowKit

theorem neq_set (s t : BitVec 256) (h : s ≠ t) (w : World) : (Op.equalIn 10000 33 (.agg #[.int .u64 (wd (s) 0), .int .u64 (wd (s) 1), .int .u64 (wd (s) 2), .int .u64 (wd (s) 3)]) (.agg #[.int .u64 (wd (t) 0), .int .u64 (wd (t) 1), .int .u64 (wd (t) 2), .int .u64 (wd (t) 3)])).run Tryd.prog w = .ok false w := by rw [eq_set]; simp [h]
end Go.Proofs.YtpfhhdiipedklaaDoor
set_option maxRecDepth 20000
namespace Go.Proofs.YtpfhhdiipedklaaDoor
open Go.RowKit

/-- What a function value answers of each of some patterns. -/
def Tells (f : Nat) (kids : List Pat) (P : Pat → Bool) : Prop := ∀ (i : Nat) (h : i < kids.length) (ks : Value) (w : World), Kids w kids[i].kids ks →
    Calls Tryd.prog f #[(.agg #[.int .i64 (kids[i]).op, .int .u64 (wd (kids[i]).set 0), .int .u64 (wd (kids[i]).set 1), .int .u64 (wd (kids[i]).set 2), .int .u64 (wd (kids[i]).set 3), .int .i64 (kids[i]).lo, .int .i64 (kids[i]).hi, ks])] w fun e w' => e = .returned (.bool (P kids[i])) ∧ Below w.heap.size w w'
theorem any_at {l : List Pat} {P : Pat → Bool} {k : Nat} (h : k < l.length) (hp : P l[k] = true) : l.any P = true := List.any_eq_true.2 ⟨_, List.getElem_mem h, hp⟩
theorem any_none {l : List Pat} {P : Pat → Bool} (h : ∀ i (hi : i < l.length), P l[i] = false) : l.any P = false := by
  rw [← Bool.not_eq_true, List.any_eq_true]
  rintro ⟨q, hq, hp⟩
  obtain ⟨i, hi, rfl⟩ := List.getElem_of_mem hq
  rw [h i hi] at hp; cases hp
theorem all_none_any (l : List Pat) (P : Pat → Bool) : (!l.any (fun p => !P p)) = l.all P := by
  induction l with
  | nil => rfl
  | cons p ps ih => simp only [List.any_cons, List.all_cons, Bool.not_or, Bool.not_not, ih]
end Go.Proofs.YtpfhhdiipedklaaDoor
