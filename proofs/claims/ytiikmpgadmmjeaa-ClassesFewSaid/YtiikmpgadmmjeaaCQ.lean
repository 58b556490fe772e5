/- Mathematics: a machine's classes and its table make it again. -/
import Derived.Test.YtiikmpgadmmjeaaCF
import Derived.Test.YtiikmpgadmmjeaaCP
import Derived.Test.YtiikmpgadmmjeaaCN
set_option maxRecDepth 100000
namespace Go.Proofs.Ytiikmpgadmmjeaa
open Go.RowKit

theorem check_fits {m : List Sta} (h : checkB m = true) : m.length ≤ 4096 ∧ ∀ i (hi : i < m.length), fitsB m.length m[i].arcs = true := by
  unfold checkB at h
  rw [Bool.and_eq_true, decide_eq_true_eq, List.all_eq_true] at h
  exact ⟨h.1, fun i hi => h.2 m[i] (List.getElem_mem hi)⟩
theorem arcs_stay {f : Nat → Int} {a : Nat} : ∀ k, (∀ b, a ≤ b → b < a + k → f b < 0) → arcsUp f (a + k) = arcsUp f a
  | 0, _ => rfl
  | k + 1, h => by
    show arcPut (arcsUp f (a + k)) (a + k) (f (a + k)) = _
    rw [arcPut_neg (h (a + k) (by omega) (by omega))]
    exact arcs_stay k fun b h1 h2 => h b h1 (by omega)
/-- Where an arc ends and the next one may begin. -/
def edge (l : List Arc3) (k : Nat) : Nat := match l[k - 1]? with
  | some a => if k = 0 then 0 else a.hi + 1
  | none => 0
theorem edge_zero (l : List Arc3) : edge l 0 = 0 := by
  unfold edge
  split
  · rw [if_pos rfl]
  · rfl
theorem edge_succ {l : List Arc3} {k : Nat} (h : k < l.length) : edge l (k + 1) = l[k].hi + 1 := by
  unfold edge
  rw [Nat.add_sub_cancel, List.getElem?_eq_getElem h]
  simp
theorem first_in {n : Nat} {l : List Arc3} (hf : fitsB n l = true) {k b : Nat} (hk : k < l.length) (h1 : l[k].lo ≤ b) (h2 : b ≤ l[k].hi) : firstTo l b = l[k].dest :=
  firstTo_at hk (fun i hi hik => by
    have := fits_rise hf k hk i hik
    unfold Arc3.has
    rw [Bool.and_eq_false_iff, decide_eq_false_iff_not, decide_eq_false_iff_not]
    omega) (by unfold Arc3.has; rw [decide_eq_true h1, decide_eq_true h2]; rfl)
theorem edge_le {n : Nat} {l : List Arc3} (hf : fitsB n l = true) {k : Nat} (hk : k < l.length) : edge l k ≤ l[k].lo := by
  cases k with
  | zero => rw [edge_zero]; omega
  | succ k =>
    rw [edge_succ (by omega)]
    have := fits_next hf hk
    omega
theorem first_gap {n : Nat} {l : List Arc3} (hf : fitsB n l = true) {k b : Nat} (hkl : k ≤ l.length) (h1 : edge l k ≤ b) (h2 : ∀ h : k < l.length, b < l[k].lo) : firstTo l b = -1 := by
  refine firstTo_none fun i hi _ => ?_
  unfold Arc3.has
  rw [Bool.and_eq_false_iff, decide_eq_false_iff_not, decide_eq_false_iff_not]
  by_cases hik : i < k
  · right
    obtain ⟨j, rfl⟩ : ∃ j, k = j + 1 := ⟨k - 1, by omega⟩
    rw [edge_succ (by omega)] at h1
    by_cases e : i = j
    · subst e; omega
    · have := fits_rise hf j (by omega) i (by omega)
      have := (fits_arc hf (show j < l.length by omega)).1
      omega
  · left
    have h3 := h2 (by omega)
    by_cases e : i = k
    · subst e; omega
    · have := fits_rise hf i hi k (by omega)
      have := (fits_arc hf (show k < l.length by omega)).1
      omega
theorem arcs_take {n : Nat} {l : List Arc3} (hf : fitsB n l = true) : ∀ k, k ≤ l.length → arcsUp (firstTo l) (edge l k) = l.take k
  | 0, _ => by rw [edge_zero]; rfl
  | k + 1, hk => by
    have ih := arcs_take hf k (by omega)
    have hkl : k < l.length := by omega
    have he := edge_le hf hkl
    have ha := fits_arc hf hkl
    have hgap := arcs_stay (f := firstTo l) (a := edge l k) (l[k].lo - edge l k) (fun b h1 h2 => by
      rw [first_gap hf (by omega) h1 (fun _ => by omega)]; omega)
    rw [show edge l k + (l[k].lo - edge l k) = l[k].lo by omega, ih] at hgap
    have hrun := arcsUp_run (firstTo l) l[k].lo (l[k].hi - l[k].lo + 1) (fun i h1 h2 => by
      rw [first_in hf hkl h1 (by omega), first_in hf hkl (Nat.le_refl _) ha.1]) (fun x hx => by
      rw [hgap] at hx
      rw [first_in hf hkl (Nat.le_refl _) ha.1]
      cases k with
      | zero => simp at hx
      | succ j =>
        have hj : j < l.length := by omega
        have hx2 : x = l[j] := by
          rw [List.take_succ_eq_append_getElem hj, List.getLast?_append, List.getLast?_singleton, Option.some_or] at hx
          exact (Option.some.inj hx).symm
        subst hx2
        have h1 := fits_iff.1 hf (j + 1) hkl
        unfold fitAt at h1
        rw [prevOk_succ hj] at h1
        unfold behindB at h1
        simp only [Bool.and_eq_true, Bool.or_eq_true, decide_eq_true_eq] at h1
        rintro ⟨e1, e2⟩
        rcases h1.2 with h | ⟨_, h⟩
        · omega
        · exact h e2.symm) (by omega)
    rw [first_in hf hkl (Nat.le_refl _) ha.1, if_neg (by omega), hgap] at hrun
    rw [edge_succ hkl, List.take_succ_eq_append_getElem hkl, show l[k].hi + 1 = l[k].lo + (l[k].hi - l[k].lo + 1) by omega, hrun]
    congr 2
    rw [show l[k].lo + (l[k].hi - l[k].lo + 1) - 1 = l[k].hi by omega]
/-- Arcs that may be are those of where they lead. -/
theorem arcs_first {n : Nat} {l : List Arc3} (hf : fitsB n l = true) (hb : ∀ a ∈ l, a.hi < 256) : arcsS (firstTo l) = l := by
  have h1 := arcs_take hf l.length (Nat.le_refl _)
  rw [List.take_length] at h1
  have he : edge l l.length ≤ 256 := by
    cases hl : l.length with
    | zero => rw [edge_zero]; omega
    | succ k =>
      rw [edge_succ (by omega)]
      have := hb l[k] (List.getElem_mem (by omega))
      omega
  have h2 := arcs_stay (f := firstTo l) (a := edge l l.length) (256 - edge l l.length) (fun b h3 _ => by
    rw [first_gap hf (Nat.le_refl _) h3 (fun h => by omega)]; omega)
  rw [show edge l l.length + (256 - edge l l.length) = 256 by omega, h1] at h2
  exact h2
theorem first_range {n : Nat} {l : List Arc3} (hf : fitsB n l = true) (b : Nat) : firstTo l b = -1 ∨ (0 ≤ firstTo l b ∧ firstTo l b < n) := by
  by_cases h : ∃ k, ∃ hk : k < l.length, l[k].lo ≤ b ∧ b ≤ l[k].hi
  · obtain ⟨k, hk, h1, h2⟩ := h
    rw [first_in hf hk h1 h2]
    have := fits_arc hf hk
    exact .inr this.2
  · left
    refine firstTo_none fun i hi _ => ?_
    unfold Arc3.has
    rw [Bool.and_eq_false_iff, decide_eq_false_iff_not, decide_eq_false_iff_not]
    by_cases h1 : l[i].lo ≤ b
    · exact .inr fun h2 => h ⟨i, hi, h1, h2⟩
    · exact .inl h1
theorem next_at {m : List Sta} {i : Nat} (hi : i < m.length) (b : Nat) : nextS m (i : Nat) b = firstTo m[i].arcs b := by
  unfold nextS
  rw [dif_pos ⟨by omega, by simpa using hi⟩]
  simp
theorem next_range {m : List Sta} (h : checkB m = true) (s : Int) (b : Nat) : nextS m s b = -1 ∨ (0 ≤ nextS m s b ∧ nextS m s b < m.length) := by
  by_cases hs : 0 ≤ s ∧ s.toNat < m.length
  · obtain ⟨k, rfl⟩ : ∃ k : Nat, s = k := ⟨s.toNat, by omega⟩
    rw [next_at (by omega)]
    exact first_range ((check_fits h).2 k (by omega)) b
  · left; unfold nextS; rw [dif_neg hs]
/-- The least byte of a byte's class leads where that leads. -/
theorem low_like (m : List Sta) {b : Nat} (hb : b < 256) : clsOf (likeB m) b < cntOf m ∧ lowF (clsOf (likeB m)) 256 (clsOf (likeB m) b) < 256 ∧ ∀ s : Int, nextS m s (lowF (clsOf (likeB m)) 256 (clsOf (likeB m) b)) = nextS m s b := by
  obtain ⟨h1, h2, _⟩ := cls_at (like_eqv m) hb
  refine ⟨h1, low_lt _ _ _, fun s => ?_⟩
  rw [low_rep (like_eqv m) h1]
  by_cases hs : 0 ≤ s ∧ s.toNat < m.length
  · obtain ⟨k, rfl⟩ : ∃ k : Nat, s = k := ⟨s.toNat, by omega⟩
    exact likeU_iff.1 h2 k (by omega)
  · unfold nextS; rw [dif_neg hs, dif_neg hs]
theorem tab_len (m : List Sta) : (tabS m).length = m.length := by simp [tabS]
theorem row_len (m : List Sta) (i : Nat) : (rowS m i).length = cntOf m := by simp [rowS]
theorem tab_get {m : List Sta} {i : Nat} (hi : i < (tabS m).length) : (tabS m)[i] = rowS m i := by simp [tabS]
theorem row_get {m : List Sta} {i k : Nat} (hk : k < (rowS m i).length) : (rowS m i)[k] = nextS m (i : Nat) (lowF (clsOf (likeB m)) 256 k) := by simp [rowS]
theorem tab_next {m : List Sta} (h : checkB m = true) (i : Nat) {b : Nat} (hb : b < 256) : nextT (tabS m) i (clsOf (likeB m) b) = nextS m (i : Nat) b := by
  obtain ⟨hk, _, hs⟩ := low_like m hb
  by_cases hi : i < m.length
  · have hi' : i < (tabS m).length := by rw [tab_len]; exact hi
    have hk' : clsOf (likeB m) b < (tabS m)[i].length := by rw [tab_get hi', row_len]; exact hk
    rw [nextT_at hi' hk']
    simp only [tab_get hi']
    rw [row_get (by rw [row_len]; exact hk), hs]
    have := next_range h (i : Nat) b
    omega
  · rw [nextT_far (by rw [tab_len]; exact hi)]
    unfold nextS; rw [dif_neg (by simp; omega)]
/-- P10.4: the machine again. -/
theorem back_is {m : List Sta} (h : checkB m = true) (hm : Mays m) : backS (tabS m) (clsOf (likeB m)) (accs m) = m := by
  apply List.ext_getElem
  · simp [backS, tab_len]
  · intro i h1 h2
    have hi : i < m.length := h2
    simp only [backS, List.getElem_map, List.getElem_range]
    have e1 : endE (accs m) i = m[i].acc := by
      rw [endE_at (by simp [accs, hi])]
      simp [accs]
    have e2 : arcsS (tgtT (tabS m) i (clsOf (likeB m))) = m[i].arcs := by
      have hfit := (check_fits h).2 i hi
      rw [← arcs_first hfit fun a ha => ((hm m[i] (List.getElem_mem hi)).2 a ha).2.1]
      refine arcsUp_neg 256 fun b hb => .inl ?_
      have hn := tab_next h i hb
      have hr := next_range h (i : Nat) b
      unfold tgtT
      rw [hn, if_neg (by rw [tab_len]; omega), next_at hi]
    rw [e1, e2]
/-- The table goes where the machine goes. -/
theorem run_is {m : List Sta} (h : checkB m = true) {bs : List Nat} (hb : ∀ b ∈ bs, b < 256) : runT (tabS m) (clsOf (likeB m)) bs = runS m bs := by
  unfold runT runS
  rw [tab_len]
  by_cases h0 : m.length = 0
  · rw [if_pos h0, if_pos h0, run_nowhere]
  · rw [if_neg h0, if_neg h0]
    have go : ∀ (bs : List Nat) (r : Int), (∀ b ∈ bs, b < 256) → -1 ≤ r → bs.foldl (goT (tabS m) (clsOf (likeB m))) r = runFrom m r bs := by
      intro bs
      induction bs with
      | nil => intro r _ _; rfl
      | cons b bs ih =>
        intro r hb hr
        have e : goT (tabS m) (clsOf (likeB m)) r b = nextS m r b := by
          unfold goT
          by_cases hneg : r < 0
          · rw [if_pos hneg, show r = -1 by omega, next_nowhere]
          · rw [if_neg hneg, tab_next h r.toNat (hb b (by simp))]
            congr 1
            omega
        show bs.foldl _ (goT _ _ r b) = runFrom m (nextS m r b) bs
        rw [e]
        refine ih _ (fun x hx => hb x (by simp [hx])) ?_
        have := next_range h r b
        omega
    exact go bs 0 hb (by omega)
/-- No two classes are alike. -/
theorem cls_differ (m : List Sta) {a b : Nat} (ha : a < cntOf m) (hb : b < cntOf m) (hne : a ≠ b) : ∃ i, i < m.length ∧ nextS m (i : Nat) (lowF (clsOf (likeB m)) 256 a) ≠ nextS m (i : Nat) (lowF (clsOf (likeB m)) 256 b) := by
  apply Classical.byContradiction
  intro hn
  apply hne
  refine rep_one (E := likeB m) (n := 256) ha hb (like_eqv m) ?_
  rw [← low_rep (like_eqv m) ha, ← low_rep (like_eqv m) hb]
  refine likeU_iff.2 fun i hi => ?_
  apply Classical.byContradiction
  intro h
  exact hn ⟨i, hi, h⟩
/-- What a text's bytes are turned to leads where they lead. -/
theorem run_low (m : List Sta) {bs : List Nat} (hb : ∀ b ∈ bs, b < 256) : runS m (bs.map fun b => lowF (clsOf (likeB m)) 256 (clsOf (likeB m) b)) = runS m bs := by
  unfold runS
  generalize (if m.length = 0 then (-1 : Int) else 0) = r
  unfold runFrom
  rw [List.foldl_map]
  induction bs generalizing r with
  | nil => rfl
  | cons b bs ih =>
    obtain ⟨_, _, hs⟩ := low_like m (hb b (by simp))
    rw [List.foldl_cons, List.foldl_cons, hs]
    exact ih (fun x hx => hb x (by simp [hx])) _
theorem cntOf_pos (m : List Sta) : 1 ≤ cntOf m := by
  have := cnt_mx m
  omega
/-- Where arcs begin, or have just ended. -/
def begsL (m : List Sta) : List Nat := m.flatMap fun s => s.arcs.flatMap fun a => [a.lo, a.hi + 1]
def arcsN (m : List Sta) : Nat := (m.map fun s => s.arcs.length).sum
theorem begs_len (m : List Sta) : (begsL m).length = 2 * arcsN m := by
  unfold begsL arcsN
  induction m with
  | nil => rfl
  | cons s m ih =>
    rw [List.flatMap_cons, List.length_append, ih, List.map_cons, List.sum_cons, Nat.mul_add]
    congr 1
    generalize s.arcs = l
    induction l with
    | nil => rfl
    | cons a l ih => rw [List.flatMap_cons, List.length_append, ih, List.length_cons]; simp; omega
theorem not_beg {m : List Sta} {b : Nat} (h : b + 1 ∉ begsL m) : likeB m b (b + 1) = true := by
  refine likeU_iff.2 fun i hi => ?_
  rw [next_at hi, next_at hi]
  have hn : ∀ a ∈ m[i].arcs, a.lo ≠ b + 1 ∧ a.hi ≠ b := fun a ha => by
    constructor
    · intro e
      exact h (List.mem_flatMap.2 ⟨m[i], List.getElem_mem hi, List.mem_flatMap.2 ⟨a, ha, by simp [e]⟩⟩)
    · intro e
      exact h (List.mem_flatMap.2 ⟨m[i], List.getElem_mem hi, List.mem_flatMap.2 ⟨a, ha, by simp [e]⟩⟩)
  generalize m[i].arcs = l at *
  clear h
  induction l with
  | nil => rfl
  | cons a l ih =>
    have h1 := hn a (by simp)
    have e : a.has b = a.has (b + 1) := by
      unfold Arc3.has
      rw [Bool.eq_iff_iff, Bool.and_eq_true, Bool.and_eq_true, decide_eq_true_eq, decide_eq_true_eq, decide_eq_true_eq, decide_eq_true_eq]
      omega
    show (if a.has b then a.dest else firstTo l b) = (if a.has (b + 1) then a.dest else firstTo l (b + 1))
    rw [e, ih fun x hx => hn x (by simp [hx])]
theorem nodup_sub {α : Type} [DecidableEq α] : ∀ (l r : List α), l.Nodup → (∀ x ∈ l, x ∈ r) → l.length ≤ r.length
  | [], _, _, _ => Nat.zero_le _
  | x :: l, r, hd, hs => by
    have hx := hs x (by simp)
    have h1 := nodup_sub l (r.erase x) (List.nodup_cons.1 hd).2 fun y hy => by
      have hne : y ≠ x := fun e => (List.nodup_cons.1 hd).1 (e ▸ hy)
      exact (List.mem_erase_of_ne hne).2 (hs y (by simp [hy]))
    have h2 := List.length_erase_of_mem hx
    have h3 := List.length_pos_of_mem hx
    rw [List.length_cons]
    omega
/-- P10.4: at most two classes more for each arc, and one. -/
theorem cnt_few (m : List Sta) : cntOf m ≤ 2 * arcsN m + 1 := by
  have hsub : ∀ x ∈ repsUp (likeB m) 256, x ∈ 0 :: begsL m := by
    intro x hx
    cases x with
    | zero => simp
    | succ b =>
      right
      apply Classical.byContradiction
      intro hn
      have hn : b + 1 ∉ begsL m := fun h => hn h
      have hl := not_beg hn
      obtain ⟨k, hk, he⟩ := List.getElem_of_mem hx
      have h1 := cls_rep (like_eqv m) hk
      rw [he] at h1
      have h2 := (cls_iff (like_eqv m) b (b + 1)).2 hl
      have hlt := reps_lt (likeB m) 256 _ hx
      have h3 := rep_least (like_eqv m) hk (show b < 256 by omega) (h2.trans h1)
      omega
  have hnd : (repsUp (likeB m) 256).Nodup := (reps_rise (likeB m) 256).imp fun h => by omega
  have := nodup_sub _ _ hnd hsub
  rw [List.length_cons, begs_len] at this
  exact this
end Go.Proofs.Ytiikmpgadmmjeaa
