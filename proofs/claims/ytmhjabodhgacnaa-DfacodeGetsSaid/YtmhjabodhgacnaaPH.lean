/- Contracts: state, list of states. -/
import Derived.Test.YtmhjabodhgacnaaPG
set_option maxRecDepth 100000
namespace Go.Proofs.Ytmhjabodhgacnaa
open Go.RowKit

theorem own_below {w w' : World} {B n sz : Nat} {e : TypeId} {v : Value} {l : List Value} (h : w.ownsRow B e sz v n l) (hb : Below w.heap.size w w') : w'.ownsRow B e sz v n l :=
  row_keep h fun g _ _ hg => (hb.block g (lt_of_block hg)).trans hg
theorem row_setCell {w : World} {B n sz : Nat} {e : TypeId} {v : Value} {xs : List Value} (h : w.ownsRow B e sz v n xs) {a : Addr} (ha : a.block < B) (u : Value) : (w.setCell a u).ownsRow B e sz v n xs :=
  row_keep h fun g cs hg hb => (Below.heap_setCell _ _ _ _ (by have := (h.lt g hg).1; omega)).trans hb
/-- States as cells. -/
def flatM (vs : List (Nat × Value)) : List Value := vs.flatMap fun p => [.int .u64 (p.1 : Nat), p.2]
theorem flatM_snoc (vs : List (Nat × Value)) (p : Nat × Value) : flatM (vs ++ [p]) = flatM vs ++ [.int .u64 (p.1 : Nat), p.2] := by simp [flatM]
theorem flatM_length (vs : List (Nat × Value)) : (flatM vs).length = vs.length * 2 := by
  induction vs with
  | nil => rfl
  | cons q l ih => simp [flatM] at ih ⊢; omega
theorem flatM_at (vs : List (Nat × Value)) : ∀ i (h : i < vs.length) j, j < 2 → (flatM vs)[i * 2 + j]? = [Value.int .u64 (vs[i].1 : Nat), vs[i].2][j]? := by
  induction vs with
  | nil => intro i h; simp at h
  | cons q l ih =>
    intro i h j hj
    have e : flatM (q :: l) = [.int .u64 (q.1 : Nat), q.2] ++ flatM l := rfl
    rw [e]
    cases i with
    | zero => rw [List.getElem?_append_left (by simpa using hj)]; simp
    | succ i =>
      rw [List.getElem?_append_right (by simp; omega)]
      have := ih i (by simpa using h) j hj
      rw [show (i + 1) * 2 + j - [Value.int .u64 (q.1 : Nat), q.2].length = i * 2 + j from by simp; omega, this]
      simp
/-- States, each with arcs of its own, in a row. -/
structure RowsM (w : World) (N : Nat) (v : Value) (vs : List (Nat × Value)) (M : List Sta) : Prop where
  len : vs.length = M.length
  own : w.ownsRow N 54 2 v M.length (flatM vs)
  acc : ∀ i (h : i < vs.length) (h' : i < M.length), vs[i].1 = M[i].acc
  row : ∀ i (h : i < vs.length) (h' : i < M.length), w.ownsRow N 69 3 vs[i].2 M[i].arcs.length (flatA M[i].arcs)
theorem RowsM.below {w w' : World} {N : Nat} {v : Value} {vs : List (Nat × Value)} {M : List Sta} (h : RowsM w N v vs M) (hb : Below w.heap.size w w') : RowsM w' N v vs M :=
  ⟨h.len, own_below h.own hb, h.acc, fun i h1 h2 => own_below (h.row i h1 h2) hb⟩
theorem RowsM.nil (w : World) (N : Nat) : RowsM w N (.slice none 0 0) [] [] := ⟨rfl, World.ownsRow_nil _ _ _ _, fun i h => by simp at h, fun i h => by simp at h⟩
theorem arc_grown {w w7 w8 : World} {N n sz : Nat} {v u : Value} {xs : List Value} {l : List Arc3} (h : w.ownsRow N 69 3 u l.length (flatA l)) (hv : w.ownsRow N 54 sz v n xs) (h7 : Below w.heap.size w w7) (h3 : w7.grownBy w8 v.ownBlock) : w8.ownsRow N 69 3 u l.length (flatA l) :=
  row_keep h fun g cs hg hgc => by
    have hne : some g ≠ v.ownBlock := fun e => by
      obtain ⟨c2, h2⟩ := row_block hv e.symm
      rw [hgc] at h2
      injection h2 with h2
      injection h2 with _ h2 _
      exact absurd h2 (by decide)
    have h1 := (h7.block g (lt_of_block hgc)).trans hgc
    exact (h3.block g (lt_of_block h1) hne).trans h1
theorem RowsM.push {w w7 w8 : World} {N : Nat} {v u u' : Value} {vs : List (Nat × Value)} {M : List Sta} {s : Sta} (h : RowsM w N v vs M) (hu : w.ownsRow N 69 3 u s.arcs.length (flatA s.arcs)) (h7 : Below w.heap.size w w7) (h3 : w7.grownBy w8 v.ownBlock) (h2 : w8.ownsRow N 54 2 u' (M.length + 1) (flatM vs ++ [.int .u64 (s.acc : Nat), u])) : RowsM w8 N u' (vs ++ [(s.acc, u)]) (M ++ [s]) := by
  refine ⟨by simp [h.len], by rw [List.length_append, List.length_singleton, flatM_snoc]; exact h2, fun i h1 h1' => ?_, fun i h1 h1' => ?_⟩
  · by_cases e : i < vs.length
    · simp only [List.getElem_append_left e, List.getElem_append_left (show i < M.length by rw [← h.len]; exact e)]
      exact h.acc i e (by rw [← h.len]; exact e)
    · obtain rfl : i = vs.length := by simp at h1; omega
      have e2 : (vs ++ [(s.acc, u)])[vs.length] = (s.acc, u) := by simp
      have e3 : (M ++ [s])[vs.length] = s := by simp [h.len]
      rw [e2, e3]
  · by_cases e : i < vs.length
    · simp only [List.getElem_append_left e, List.getElem_append_left (show i < M.length by rw [← h.len]; exact e)]
      exact arc_grown (h.row i e (by rw [← h.len]; exact e)) h.own h7 h3
    · obtain rfl : i = vs.length := by simp at h1; omega
      have e2 : (vs ++ [(s.acc, u)])[vs.length] = (s.acc, u) := by simp
      have e3 : (M ++ [s])[vs.length] = s := by simp [h.len]
      rw [e2, e3]
      exact arc_grown hu h.own h7 h3
theorem RowsM.mach {w : World} {N : Nat} {v : Value} {vs : List (Nat × Value)} {M : List Sta} (h : RowsM w N v vs M) : MachAt w v M := by
  have h0 := h.own
  rcases h0.2 with ⟨rfl, h1⟩ | ⟨g, cap, cur, rfl, _⟩
  · have : M = [] := List.eq_nil_of_length_eq_zero h1
    subst this; exact MachAt.nil w
  · refine ⟨_, cap, rfl, fun i hi => ?_⟩
    have hv : i < vs.length := by rw [h.len]; exact hi
    refine ⟨g, 0, vs[i].2, rfl, ?_, ?_, arcs_of_row (h.row i hv hi)⟩
    · rw [Nat.zero_add]
      have := h0.cellAt (i * 2) (by omega)
      rw [this]
      have := flatM_at vs i hv 0 (by omega)
      rw [Nat.add_zero] at this
      rw [this, h.acc i hv hi]; rfl
    · rw [Nat.zero_add, h0.cellAt (i * 2 + 1) (by omega), flatM_at vs i hv 1 (by omega)]; rfl
theorem set2_go (w : World) (b : Nat) (u0 u1 : Value) : w.grownBy ((w.setCell ⟨b, 0, none⟩ u0).setCell ⟨b, 1, none⟩ u1) (some b) := gb_set (gb_set (gb_refl _ _) 0 _) 1 _
set_option maxHeartbeats 4000000 in
theorem state_any (R : Nat) (s : RS) (w : World) (h : RB w R s) (hs : ROk s) :
    Calls Try.prog 30 #[.pointer (some ⟨R, 0, none⟩)] w fun e w' => ∃ v, e = .returned (.agg #[.int .u64 ((rdSt s).1.acc : Nat), v]) ∧ Hid (w'.ownsRow w.heap.size 69 3 v (rdSt s).1.arcs.length (flatA (rdSt s).1.arcs)) ∧ Hid (RB w' R (rdSt s).2) ∧ Hid (w.grownBy w' (some R)) := by
  have hRl := h.lt
  obtain ⟨B, hB⟩ : ∃ B, w.heap.size = B := ⟨_, rfl⟩
  obtain ⟨w1, hw1⟩ : ∃ w1, w.alloc (.cells #[.int .u64 0, .slice none 0 0] 54) = w1 := ⟨_, rfl⟩
  have HB1 : Hid (w1.heap[B]? = some (.cells #[.int .u64 0, .slice none 0 0] 54 (0, 0))) := Lib.hid (by rw [← hw1, ← hB]; exact heap_alloc_new w _)
  have HG1 : Hid (w.grownBy w1 (some R)) := Lib.hid (by rw [← hw1]; exact gb_below (new_one w _))
  have HS1 : Hid (w1.heap.size = B + 1) := Lib.hid (by rw [← hw1]; simp [hB])
  have HN := Lib.hid (number_any R s w1 (by rw [← hw1]; exact rb_alloc h _) hs)
  have HL := Lib.hid (fun W hW => list_arc R (rdNum s).2 W hW (rdNum_ok s hs))
  have hRB : R < B := by omega
  have HE := Lib.hid (show rdSt s = (⟨(rdNum s).1, (rdList rdArc 256 (rdNum s).2).1⟩, (rdList rdArc 256 (rdNum s).2).2) from rfl)
  have HBS := Lib.hid hB
  rw [HE.out]
  simp only []
  clear h hs hRl HE
  generalize rdList rdArc 256 (rdNum s).2 = q2 at *
  generalize rdNum s = q1 at *
  rw [hB]
  go_enter Try.func30, Try.ntmps30
  go_wp2_with (first
    | (go_at_call 34; (with_reducible refine HN.out.mono ?_); rintro e w2 ⟨rfl, hr2, hg2⟩; have HL2 := Lib.hid (HL.out w2 hr2.out))
    | (go_at_call 35; (with_reducible refine HL2.out.mono ?_); rintro e w4 ⟨v4, rfl, ho4, hr4, hg4⟩; obtain ⟨a4, c4, rfl⟩ := row_form ho4.out; have HG4 : Hid (w1.grownBy w4 (some R)) := Lib.hid (gb_trans hg2.out hg4.out); have HZ2 : Hid (B < w2.heap.size) := Lib.hid (by have := hg2.out.size; have := HS1.out; omega); have hb4 := gb_old HG4.out HB1.out (show B ≠ R by omega); have HB4 := Lib.hid hb4; have k0 := (cell_of_row w4 B 0 _ _ _ hb4).trans rfl; have k1 := (cell_of_row w4 B 1 _ _ _ hb4).trans rfl; have f0 := free_cells (j := 0) hb4; have f1 := free_cells (j := 1) hb4; clear hb4))
  refine bodyPost_ret (v := .agg #[.int .u64 q1.1, .slice a4 q2.1.length c4]) (by simp [results, Try.results30, go_sem, k0, k1]) rfl ⟨_, rfl, ?_, ?_, ?_⟩
  · exact Lib.hid (own_weak (row_setCell (row_setCell ho4.out (show B < w2.heap.size from HZ2.out) _) (show B < w2.heap.size from HZ2.out) _) (Nat.le_of_lt HZ2.out))
  · exact Lib.hid (rb_other hr4.out (set2_go _ _ _ _) (by omega))
  · exact Lib.hid (gb_own (gb_trans HG1.out HG4.out) (set2_go _ _ _ _) (by rw [HBS.out]; omega))
end Go.Proofs.Ytmhjabodhgacnaa
