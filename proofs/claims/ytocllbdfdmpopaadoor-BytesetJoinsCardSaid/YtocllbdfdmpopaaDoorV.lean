/- The document's example: plain facts. -/
import Derived.Test.YtocllbdfdmpopaaDoorWC
set_option maxRecDepth 20000
namespace Go.Proofs.YtocllbdfdmpopaaDoor

/-- 'ace' and b; 'ax'; 'a'. -/
def aw : BitVec 256 := ofB [97, 99, 101] ||| ofP (rangeP 98 98)
def sAx : BitVec 256 := ofB [97, 120]
def sA : BitVec 256 := ofB [97]
def awN : BitVec 256 := BitVec.ofNat 256 3644495475656159529303021715456
theorem aw_eq : aw = awN := by decide +kernel
theorem aw_and : aw &&& sAx = sA := by decide +kernel
theorem aw_cnt : cnt aw 256 = 4 := by rw [aw_eq]; decide +kernel
theorem aw_cnt_not : cnt (~~~aw) 256 = 252 := by rw [aw_eq]; decide +kernel
theorem full_cnt : cnt full 256 = 256 := by decide +kernel
theorem aw_97 : aw.getLsbD 97 = true := by rw [aw_eq]; decide +kernel
theorem fst_by {s : BitVec 256} {b r : Nat} (h1 : b ≤ r) (h2 : r < 256) (h3 : s.getLsbD r = true) (h4 : (List.range r).all (fun c => decide (c < b) || !s.getLsbD c) = true) : fst s b = r :=
  fst_eq h1 h2 h3 (fun c c1 c2 => by
    have := List.all_eq_true.1 h4 c (List.mem_range.2 c2)
    have l : ¬ c < b := by omega
    simpa [l] using this)
theorem aw_f0 : fst aw 0 = 97 := by rw [aw_eq]; exact fst_by (by omega) (by omega) (by decide +kernel) (by decide +kernel)
theorem aw_g97 : fst (~~~aw) 97 = 100 := by rw [aw_eq]; exact fst_by (by omega) (by omega) (by decide +kernel) (by decide +kernel)
theorem aw_f100 : fst aw 100 = 101 := by rw [aw_eq]; exact fst_by (by omega) (by omega) (by decide +kernel) (by decide +kernel)
theorem aw_g101 : fst (~~~aw) 101 = 102 := by rw [aw_eq]; exact fst_by (by omega) (by omega) (by decide +kernel) (by decide +kernel)
theorem aw_f102 : fst aw 102 = 256 := by
  rw [aw_eq]
  have h : (List.range 256).all (fun c => decide (c < 102) || !awN.getLsbD c) = true := by decide +kernel
  exact fst_none (fun c c1 c2 => by
    have := List.all_eq_true.1 h c (List.mem_range.2 c2)
    have l : ¬ c < 102 := by omega
    simpa [l] using this)
theorem aw_runs : runs aw 0 = [(97, 99), (101, 101)] := by
  rw [runs_more (by rw [aw_f0]; omega), aw_f0, aw_g97, runs_more (by rw [aw_f100]; omega), aw_f100, aw_g101, runs_end (by rw [aw_f102]; omega)]
theorem aw_reps : reps [aw] 256 = [0, 97] := by rw [aw_eq]; decide +kernel
theorem aw_cls : cls [aw] 97 = aw := by
  apply bv_ext
  intro x hx
  rw [get_cls _ _ _ hx]
  rw [List.all_cons, List.all_nil, aw_97]
  cases aw.getLsbD x <;> rfl
theorem aw_cut : cutL [aw] = [cls [aw] 0, aw] := by
  unfold cutL
  rw [aw_reps, List.map_cons, List.map_cons, List.map_nil, aw_cls]
end Go.Proofs.YtocllbdfdmpopaaDoor
