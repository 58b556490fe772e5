/- One set more, up to a byte: plain facts. -/
import Derived.Test.YtplgnbedcjanhaaA0
namespace Go.Proofs.Ytplgnbedcjanhaa
/-- One set more, up to a byte. -/
def orTo (u s : BitVec 256) (k : Nat) : BitVec 256 := ofP (fun x => u.getLsbD x || (decide (x < k) && s.getLsbD x))
theorem orTo_zero (u s : BitVec 256) : orTo u s 0 = u := by
  apply bv_ext
  intro x hx
  unfold orTo
  rw [get_ofP _ _ hx]; simp
theorem orTo_end (u s : BitVec 256) : orTo u s 256 = u ||| s := by
  apply bv_ext
  intro x hx
  unfold orTo
  rw [get_ofP _ _ hx, BitVec.getLsbD_or]; simp [hx]
theorem orTo_yes (u s : BitVec 256) (k : Nat) (hk : k < 256) (h : s.getLsbD k = true) : orTo u s (k + 1) = put (orTo u s k) k := by
  apply bv_ext
  intro x hx
  rw [get_put _ _ _ hk]
  unfold orTo
  rw [get_ofP _ _ hx, get_ofP _ _ hx]
  by_cases e : x = k
  · subst e; simp [h]
  · have : x < k + 1 ↔ x < k := by omega
    simp [e, this]
theorem orTo_no (u s : BitVec 256) (k : Nat) (h : s.getLsbD k = false) : orTo u s (k + 1) = orTo u s k := by
  apply bv_ext
  intro x hx
  unfold orTo
  rw [get_ofP _ _ hx, get_ofP _ _ hx]
  by_cases e : x = k
  · subst e; simp [h]
  · have : x < k + 1 ↔ x < k := by omega
    simp [this]
end Go.Proofs.Ytplgnbedcjanhaa
