/- What BytesetJoins rests on: plain facts, no program. -/
import Derived.Test.YtocllbdfdmpopaaDoorC
namespace Go.Proofs.YtocllbdfdmpopaaDoor

theorem get_unionL (l : List (BitVec 256)) : ∀ (u : BitVec 256) (x : Nat), (l.foldl (· ||| ·) u).getLsbD x = (u.getLsbD x || l.any (fun s => s.getLsbD x)) := by
  induction l with
  | nil => intro u x; simp
  | cons s l ih => intro u x; rw [List.foldl_cons, ih, BitVec.getLsbD_or, List.any_cons, Bool.or_assoc]
theorem get_interL (l : List (BitVec 256)) : ∀ (u : BitVec 256) (x : Nat), (l.foldl (· &&& ·) u).getLsbD x = (u.getLsbD x && l.all (fun s => s.getLsbD x)) := by
  induction l with
  | nil => intro u x; simp
  | cons s l ih => intro u x; rw [List.foldl_cons, ih, BitVec.getLsbD_and, List.all_cons, Bool.and_assoc]
/-- The bytes that all of them have, byte by byte. -/
theorem inter_end (l : List (BitVec 256)) : upTo (fun x => l.all (fun s => s.getLsbD x)) 256 = interL l := by
  apply bv_ext
  intro x hx
  rw [get_upTo _ _ _ (Nat.le_refl _)]
  unfold interL
  rw [get_interL, get_full x hx]
  simp [hx]
/-- One set more, up to a byte. -/
def orTo (u s : BitVec 256) (k : Nat) : BitVec 256 := ofP (fun x => u.getLsbD x || (decide (x < k) && s.getLsbD x))
theorem orTo_zero (u s : BitVec 256) : orTo u s 0 = u := by
  apply bv_ext
  intro x hx
  unfold orTo
  rw [get_ofP _ _ hx]; simp
theorem orTo_end (u s : BitVec 256) : orTo u s 256 = u ||| s := by
  apply bv_ext
  intro x hx
  unfold orTo
  rw [get_ofP _ _ hx, BitVec.getLsbD_or]; simp [hx]
theorem orTo_yes (u s : BitVec 256) (k : Nat) (hk : k < 256) (h : s.getLsbD k = true) : orTo u s (k + 1) = put (orTo u s k) k := by
  apply bv_ext
  intro x hx
  rw [get_put _ _ _ hk]
  unfold orTo
  rw [get_ofP _ _ hx, get_ofP _ _ hx]
  by_cases e : x = k
  · subst e; simp [h]
  · have : x < k + 1 ↔ x < k := by omega
    simp [e, this]
theorem orTo_no (u s : BitVec 256) (k : Nat) (h : s.getLsbD k = false) : orTo u s (k + 1) = orTo u s k := by
  apply bv_ext
  intro x hx
  unfold orTo
  rw [get_ofP _ _ hx, get_ofP _ _ hx]
  by_cases e : x = k
  · subst e; simp [h]
  · have : x < k + 1 ↔ x < k := by omega
    simp [this]
/-- The part of r, below k. -/
def clsTo (l : List (BitVec 256)) (k r : Nat) : BitVec 256 := ofP (fun x => decide (x < k) && alike l x r)
theorem clsTo_end (l : List (BitVec 256)) (r : Nat) : clsTo l 256 r = cls l r := by
  apply bv_ext
  intro x hx
  unfold clsTo
  rw [get_ofP _ _ hx, get_cls' l r x hx]
  simp [hx]
theorem clsTo_yes (l : List (BitVec 256)) (k r : Nat) (hk : k < 256) (h : alike l k r = true) : clsTo l (k + 1) r = put (clsTo l k r) k := by
  apply bv_ext
  intro x hx
  rw [get_put _ _ _ hk]
  unfold clsTo
  rw [get_ofP _ _ hx, get_ofP _ _ hx]
  by_cases e : x = k
  · subst e; simp [h]
  · have : x < k + 1 ↔ x < k := by omega
    simp [e, this]
theorem clsTo_no (l : List (BitVec 256)) (k r : Nat) (h : alike l k r = false) : clsTo l (k + 1) r = clsTo l k r := by
  apply bv_ext
  intro x hx
  unfold clsTo
  rw [get_ofP _ _ hx, get_ofP _ _ hx]
  by_cases e : x = k
  · subst e; simp [h]
  · have : x < k + 1 ↔ x < k := by omega
    simp [this]
theorem clsTo_new (l : List (BitVec 256)) (k : Nat) (hk : k < 256) (h : isRep l k = true) : clsTo l (k + 1) k = put 0 k := by
  rw [clsTo_yes l k k hk (alike_refl l k)]
  congr 1
  apply bv_ext
  intro x hx
  unfold clsTo
  rw [get_ofP _ _ hx]
  by_cases e : x < k
  · simp [isRep_iff.1 h x e]
  · simp [e]
/-- The parts' bytes below k. -/
def cutTo (l : List (BitVec 256)) (k : Nat) : List (BitVec 256) := (reps l k).map (clsTo l k)
theorem cutTo_length (l : List (BitVec 256)) (k : Nat) : (cutTo l k).length = (reps l k).length := by simp [cutTo]
theorem cutTo_end (l : List (BitVec 256)) : cutTo l 256 = cutL l := by
  unfold cutTo cutL
  exact List.map_congr_left (fun r _ => clsTo_end l r)
theorem rep_clash {l : List (BitVec 256)} {r t : Nat} (hr : isRep l r = true) (ht : isRep l t = true) (h : alike l r t = true) : r = t := by
  rcases Nat.lt_trichotomy r t with g | g | g
  · rw [isRep_iff.1 ht r g] at h; cases h
  · exact g
  · have := isRep_iff.1 hr t g
    rw [alike_symm h] at this; cases this
/-- A byte that begins a part. -/
theorem cutTo_new (l : List (BitVec 256)) (k : Nat) (hk : k < 256) (h : isRep l k = true) : reps l (k + 1) = reps l k ++ [k] ∧ cutTo l (k + 1) = cutTo l k ++ [put 0 k] := by
  have e : reps l (k + 1) = reps l k ++ [k] := by rw [reps, h]; rfl
  refine ⟨e, ?_⟩
  unfold cutTo
  rw [e, List.map_append, List.map_cons, List.map_nil, clsTo_new l k hk h]
  congr 1
  refine List.map_congr_left (fun r hr => clsTo_no l k r ?_)
  have := isRep_iff.1 h r (mem_reps.1 hr).1
  cases ha : alike l k r with
  | false => rfl
  | true => rw [alike_symm ha] at this; cases this
theorem reps_nodup (l : List (BitVec 256)) (k : Nat) : ∀ i j (hi : i < (reps l k).length) (hj : j < (reps l k).length), (reps l k)[i] = (reps l k)[j] → i = j := by
  induction k with
  | zero => intro i j hi; simp [reps] at hi
  | succ k ih =>
    intro i j hi hj h
    by_cases hr : isRep l k = true
    · have e : reps l (k + 1) = reps l k ++ [k] := by rw [reps, hr]; rfl
      simp only [e] at hi hj h
      have lt (m : Nat) (hm : m < (reps l k).length) : (reps l k)[m] < k := (mem_reps.1 (List.getElem_mem hm)).1
      simp only [List.length_append, List.length_cons, List.length_nil] at hi hj
      rw [List.getElem_append, List.getElem_append] at h
      split at h
      · rename_i h1
        split at h
        · rename_i h2; exact ih i j h1 h2 h
        · have := lt i h1; simp at h; omega
      · split at h
        · rename_i h2; have := lt j h2; simp at h; omega
        · omega
    · have e : reps l (k + 1) = reps l k := by rw [reps, if_neg hr]
      simp only [e] at hi hj h
      exact ih i j hi hj h
/-- A byte that is alike to the lowest one of part i. -/
theorem cutTo_old (l : List (BitVec 256)) (k i : Nat) (hk : k < 256) (hi : i < (reps l k).length) (h : alike l ((reps l k)[i]) k = true) : reps l (k + 1) = reps l k ∧ cutTo l (k + 1) = (cutTo l k).set i (put ((cutTo l k)[i]'(by rw [cutTo_length]; exact hi)) k) := by
  have hm := mem_reps.1 (List.getElem_mem hi)
  have hno : isRep l k = false := by
    cases hr : isRep l k with
    | false => rfl
    | true => rw [isRep_iff.1 hr _ hm.1] at h; cases h
  have e : reps l (k + 1) = reps l k := by rw [reps, hno]; rfl
  refine ⟨e, ?_⟩
  apply List.ext_getElem
  · rw [cutTo_length, List.length_set, cutTo_length, e]
  · intro j h1 h2
    rw [List.getElem_set]
    have hj : j < (reps l k).length := by rw [cutTo_length, e] at h1; exact h1
    unfold cutTo
    simp only [List.getElem_map, e]
    split
    · rename_i hij
      subst hij
      exact clsTo_yes l k _ hk (alike_symm h)
    · rename_i hij
      refine clsTo_no l k _ ?_
      cases ha : alike l k ((reps l k)[j]) with
      | false => rfl
      | true =>
        have hj' := mem_reps.1 (List.getElem_mem hj)
        have := rep_clash hm.2 hj'.2 (alike_trans h ha)
        exact absurd (reps_nodup l k i j hi hj this) hij
end Go.Proofs.YtocllbdfdmpopaaDoor
