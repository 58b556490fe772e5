/- Contracts: the states of classes.Back, and the whole of it. -/
import Derived.Test.YtiikmpgadmmjeaaC3
import Derived.Test.YtiikmpgadmmjeaaCD
import Derived.Test.YtiikmpgadmmjeaaCG
set_option maxRecDepth 100000
namespace Go.Proofs.Ytiikmpgadmmjeaa
open Go.RowKit
attribute [local go_sem] zero_u8s zero_i64s

/-- As what states end lies. -/
def EndsAt (w : World) (v : Value) (l : List Nat) : Prop := ∃ a c, v = .slice a l.length c ∧ ∀ i (h : i < l.length), ∃ b o, a = some ⟨b, o, none⟩ ∧ w.cell? ⟨b, o + i, none⟩ = some (.int .u64 (l[i] : Nat))
theorem EndsAt.len {w : World} {v : Value} {l : List Nat} (h : EndsAt w v l) : ∃ a c, v = .slice a l.length c := by
  obtain ⟨a, c, e, _⟩ := h
  exact ⟨a, c, e⟩
theorem EndsAt.at {w : World} {v : Value} {l : List Nat} {a : Option Addr} {c : Nat} (h : EndsAt w v l) (hv : v = .slice a l.length c) {i : Nat} (hi : i < l.length) : ∃ b o, a = some ⟨b, o, none⟩ ∧ w.cell? ⟨b, o + i, none⟩ = some (.int .u64 (l[i] : Nat)) := by
  obtain ⟨a', c', e, h1⟩ := h
  rw [hv] at e; cases e
  exact h1 i hi
theorem EndsAt.below {w w' : World} {v : Value} {l : List Nat} (h : EndsAt w v l) (hb : Below w.heap.size w w') : EndsAt w' v l := by
  obtain ⟨a, c, e, h1⟩ := h
  exact ⟨a, c, e, fun i hi => by
    obtain ⟨b, o, e1, e2⟩ := h1 i hi
    exact ⟨b, o, e1, cell_below hb e2⟩⟩
/-- What a row ends. -/
def endE (es : List Nat) (i : Nat) : Nat := (es[i]?).getD 0
theorem endE_far {es : List Nat} {i : Nat} (h : ¬ i < es.length) : endE es i = 0 := by unfold endE; rw [List.getElem?_eq_none (by omega)]; rfl
theorem endE_at {es : List Nat} {i : Nat} (h : i < es.length) : endE es i = es[i] := by unfold endE; rw [List.getElem?_eq_getElem h]; rfl
/-- The machine of a table. -/
def backS (T : List (List Int)) (cls : Nat → Nat) (es : List Nat) : List Sta := (List.range T.length).map fun i => ⟨endE es i, arcsS (tgtT T i cls)⟩
theorem set2 {w : World} {b : Nat} {u0 u1 : Value} {t : TypeId} (h : w.heap[b]? = some (.cells #[u0, u1] t (0, 0))) (v : Value) : (w.setCell ⟨b, 0, none⟩ v).heap[b]? = some (.cells #[v, u1] t (0, 0)) := by
  rw [setCell_block h]; rfl
set_option maxHeartbeats 4000000 in
theorem backst_any (bc bt be row : Nat) (cls : Nat → Nat) (vT vE : Value) (T : List (List Int)) (es : List Nat) (w : World) (hT : TabOk T) (hc : ∀ b, b < 256 → cls b < 256) (h1 : UBlk w bc cls) (h2 : Bx w bt 31 vT) (h3 : Bx w be 35 vE) (h4 : TabAt w vT T) (h5 : EndsAt w vE es) :
    Calls Try.prog 34 #[.int .i64 row, .pointer (some ⟨bc, 0, none⟩), .pointer (some ⟨bt, 0, none⟩), .pointer (some ⟨be, 0, none⟩)] w fun e w' => ∃ v, e = .returned (.agg #[.int .u64 (endE es row : Nat), v]) ∧ Hid (w'.ownsRow w.heap.size 50 3 v (arcsS (tgtT T row cls)).length (flatA (arcsS (tgtT T row cls)))) ∧ Hid (Below w.heap.size w w') := by
  obtain ⟨B0, hB⟩ : ∃ B, w.heap.size = B := ⟨_, rfl⟩
  obtain ⟨w1, hw1⟩ : ∃ w1, w.alloc (.cells #[.int .u64 0, .slice none 0 0] 48) = w1 := ⟨_, rfl⟩
  have hb1 : Below w.heap.size w w1 := by rw [← hw1]; exact new_one w _
  have hs1 : w1.heap.size = B0 + 1 := by rw [← hw1]; simp [hB]
  have hx1 : w1.heap[B0]? = some (.cells #[.int .u64 0, .slice none 0 0] 48 (0, 0)) := by rw [← hw1, ← hB]; exact heap_alloc_new w _
  have HU := Lib.hid (h1.below hb1)
  have c2 := (h2.below hb1).cell
  have HX3 := Lib.hid (h3.below hb1)
  have HE := Lib.hid (h5.below hb1)
  have HTG := Lib.hid (targets10_any cls vT T row w1 (h4.below hb1) hT hc)
  have HAR := Lib.hid (fun W => darcs_any (tgtT T row cls) W)
  obtain ⟨f, hf⟩ : ∃ f, tgtT T row cls = f := ⟨_, rfl⟩
  rw [hf] at HTG HAR ⊢
  obtain ⟨aT, cT, rfl⟩ := h4.len
  obtain ⟨aE, cE, rfl⟩ := h5.len
  have HX1 := Lib.hid hx1
  have HB1 := Lib.hid hb1
  clear hf h1 h2 h3 h4 h5 hT hc hx1 hb1
  rw [hB] at HB1 ⊢
  go_enter Try.func34, Try.ntmps34
  go_upto_region 2 with (first
    | (refine wpList_load_u8c bc cls HU.out rfl _ rfl rfl ?_)
    | (go_at_call 36; (with_reducible refine HTG.out.mono ?_); rintro e w5 ⟨rfl, hb5⟩; have HB5 := Lib.hid hb5; have HAR5 := Lib.hid (HAR.out w5); clear hb5)
    | (go_at_call 35; (with_reducible refine HAR5.out.mono ?_); rintro e w6 ⟨v6, rfl, hr6, hb6⟩; obtain ⟨a6, c6, rfl⟩ := row_form hr6.out))
  obtain ⟨al, hal⟩ : ∃ al, (arcsS f).length = al := ⟨_, rfl⟩
  obtain ⟨n5, hn5⟩ : ∃ n5, w5.heap.size = n5 := ⟨_, rfl⟩
  obtain ⟨n6, hn6⟩ : ∃ n6, w6.heap.size = n6 := ⟨_, rfl⟩
  rw [hal] at hr6 ⊢
  rw [hn5] at hr6
  obtain ⟨w7, hw7⟩ : ∃ w7, w6.alloc (.cells #[.int .u64 0, .slice a6 al c6] 48) = w7 := ⟨_, rfl⟩
  have hb67 : Below w6.heap.size w6 w7 := by rw [← hw7]; exact new_one w6 _
  have hq7 : w7.heap[n6]? = some (.cells #[.int .u64 0, .slice a6 al c6] 48 (0, 0)) := by rw [← hw7, ← hn6]; exact heap_alloc_new w6 _
  have hs15 := HB5.out.size
  have hs56 := hb6.out.size
  have hb17 : Below w1.heap.size w1 w7 := HB5.out.trans ((hb6.out.trans (hb67.mono hs56)).mono hs15)
  have HR7 := Lib.hid (own_below hr6.out hb67)
  have hp7 := (hb17.block B0 (by omega)).trans HX1.out
  have HLT := Lib.hid (show B0 < n5 by omega)
  have HLT6 := Lib.hid (show B0 < n6 ∧ n5 ≤ n6 by omega)
  have c3 := (HX3.out.below hb17).cell
  have HE7 := Lib.hid (HE.out.below hb17)
  have HB7 := Lib.hid (HB1.out.trans (hb17.mono (by omega)))
  have HQ7 := Lib.hid hq7
  have HP7 := Lib.hid hp7
  have h67 := HLT6.out
  rw [hn6, hw7]
  clear hw7 hb67 hq7 hb17 hp7 hr6 hb6 HB5 HX3 HE HX1 HB1 HTG HAR HAR5 hs15 hs56 hs1 c2
  by_cases hrow : row < es.length
  · have hd : decide ((row : Int) < es.length) = true := decide_eq_true (by omega)
    have hri : (row : Int) < es.length := by omega
    obtain ⟨bE, oE, rfl, e1⟩ := HE7.out.at rfl hrow
    have HEE := Lib.hid (endE_at hrow)
    generalize es[row] = x at *
    have k0 : w7.cell? ⟨n6, 0, none⟩ = some (.int .u64 0) := (cell_of_row w7 n6 0 _ _ _ HQ7.out).trans rfl
    have k3 : w7.frozen? ⟨n6, 0, none⟩ = false := frozen_row HQ7.out
    go_upto_region 4 with fail
    clear k0 k3 c3 e1
    obtain ⟨w8, hw8⟩ : ∃ w8, w7.setCell ⟨n6, 0, none⟩ (.int .u64 (x : Nat)) = w8 := ⟨_, rfl⟩
    have HQ : Hid (w8.heap[n6]? = some (.cells #[.int .u64 (x : Nat), .slice a6 al c6] 48 (0, 0))) := Lib.hid (by rw [← hw8]; exact set2 HQ7.out _)
    have HP : Hid (w8.heap[B0]? = some (.cells #[.int .u64 0, .slice none 0 0] 48 (0, 0))) := Lib.hid (by rw [← hw8, Below.heap_setCell _ _ _ _ (show B0 ≠ n6 by omega)]; exact HP7.out)
    have HB8 : Hid (Below B0 w w8) := Lib.hid (by rw [← hw8]; exact HB7.out.setCell (by show B0 ≤ n6; omega) _)
    have HR8 : Hid (w8.ownsRow n5 50 3 (.slice a6 al c6) al (flatA (arcsS f))) := Lib.hid (by
      rw [← hw8]
      refine row_keep HR7.out fun g cs hg hgc => ?_
      have hne : g ≠ n6 := fun e => by
        subst e
        rw [HQ7.out] at hgc
        injection hgc with hgc
        injection hgc with _ hgc _
        exact absurd hgc (by decide)
      exact (Below.heap_setCell _ _ _ _ hne).trans hgc)
    rw [hw8]
    clear hw8 HQ7 HP7 HB7 HR7
    have hq : w8.heap[n6]? = some (.cells #[.int .u64 (x : Nat), .slice a6 al c6] 48 (0, 0)) := HQ.out
    have hp : w8.heap[B0]? = some (.cells #[.int .u64 0, .slice none 0 0] 48 (0, 0)) := HP.out
    have k0 : w8.cell? ⟨n6, 0, none⟩ = some (.int .u64 (x : Nat)) := (cell_of_row w8 n6 0 _ _ _ hq).trans rfl
    have k1 : w8.cell? ⟨n6, 1, none⟩ = some (.slice a6 al c6) := (cell_of_row w8 n6 1 _ _ _ hq).trans rfl
    have k2 : w8.cell? ⟨B0, 0, none⟩ = some (.int .u64 0) := (cell_of_row w8 B0 0 _ _ _ hp).trans rfl
    have k3 : w8.frozen? ⟨B0, 0, none⟩ = false := frozen_row hp
    have hp2 := set2 hp (.int .u64 (x : Nat))
    have k4 : (w8.setCell ⟨B0, 0, none⟩ (.int .u64 (x : Nat))).cell? ⟨B0, 1, none⟩ = some (.slice none 0 0) := (cell_of_row _ B0 1 _ _ _ hp2).trans rfl
    have k5 : (w8.setCell ⟨B0, 0, none⟩ (.int .u64 (x : Nat))).frozen? ⟨B0, 1, none⟩ = false := frozen_row hp2
    clear hq hp hp2
    go_wp2
    clear k0 k1 k2 k3 k4 k5
    obtain ⟨w9, hw9⟩ : ∃ w9, (w8.setCell ⟨B0, 0, none⟩ (.int .u64 (x : Nat))).setCell ⟨B0, 1, none⟩ (.slice a6 al c6) = w9 := ⟨_, rfl⟩
    have hp9 : w9.heap[B0]? = some (.cells #[.int .u64 (x : Nat), .slice a6 al c6] 48 (0, 0)) := by
      rw [← hw9, setCell_block (set2 HP.out _)]; rfl
    have HR9 : Hid (w9.ownsRow B0 50 3 (.slice a6 al c6) al (flatA (arcsS f))) := Lib.hid (by
      rw [← hw9]
      exact own_weak (row_setCell (row_setCell HR8.out (show B0 < n5 from HLT.out) _) (show B0 < n5 from HLT.out) _) (Nat.le_of_lt HLT.out))
    have HB9 : Hid (Below B0 w w9) := Lib.hid (by rw [← hw9]; exact (HB8.out.setCell (Nat.le_refl B0) _).setCell (Nat.le_refl B0) _)
    have q0 : w9.cell? ⟨B0, 0, none⟩ = some (.int .u64 (x : Nat)) := (cell_of_row w9 B0 0 _ _ _ hp9).trans rfl
    have q1 : w9.cell? ⟨B0, 1, none⟩ = some (.slice a6 al c6) := (cell_of_row w9 B0 1 _ _ _ hp9).trans rfl
    rw [hw9]
    clear hw9 hp9
    exact bodyPost_ret (v := .agg #[.int .u64 (x : Nat), .slice a6 al c6]) (by simp [results, Try.results34, go_sem, *]) rfl ⟨_, by first | (rw [HEE.out]; done) | (rw [HEE.out]; rfl), by rw [hal]; exact HR9, HB9⟩
  · have hd : decide ((row : Int) < es.length) = false := decide_eq_false (by omega)
    have hdn : decide (row < es.length) = false := decide_eq_false hrow
    have HEE := Lib.hid (endE_far hrow)
    clear hrow
    go_upto_region 4 with fail
    clear c3
    have HQ := HQ7
    have HP := HP7
    have HB8 := HB7
    have HR8 := HR7
    have hq : w7.heap[n6]? = some (.cells #[.int .u64 0, .slice a6 al c6] 48 (0, 0)) := HQ.out
    have hp : w7.heap[B0]? = some (.cells #[.int .u64 0, .slice none 0 0] 48 (0, 0)) := HP.out
    have k0 : w7.cell? ⟨n6, 0, none⟩ = some (.int .u64 0) := (cell_of_row w7 n6 0 _ _ _ hq).trans rfl
    have k1 : w7.cell? ⟨n6, 1, none⟩ = some (.slice a6 al c6) := (cell_of_row w7 n6 1 _ _ _ hq).trans rfl
    have k2 : w7.cell? ⟨B0, 0, none⟩ = some (.int .u64 0) := (cell_of_row w7 B0 0 _ _ _ hp).trans rfl
    have k3 : w7.frozen? ⟨B0, 0, none⟩ = false := frozen_row hp
    have hp2 := set2 hp (.int .u64 0)
    have k4 : (w7.setCell ⟨B0, 0, none⟩ (.int .u64 0)).cell? ⟨B0, 1, none⟩ = some (.slice none 0 0) := (cell_of_row _ B0 1 _ _ _ hp2).trans rfl
    have k5 : (w7.setCell ⟨B0, 0, none⟩ (.int .u64 0)).frozen? ⟨B0, 1, none⟩ = false := frozen_row hp2
    clear hq hp hp2
    go_wp2
    clear k0 k1 k2 k3 k4 k5
    obtain ⟨w9, hw9⟩ : ∃ w9, (w7.setCell ⟨B0, 0, none⟩ (.int .u64 0)).setCell ⟨B0, 1, none⟩ (.slice a6 al c6) = w9 := ⟨_, rfl⟩
    have hp9 : w9.heap[B0]? = some (.cells #[.int .u64 0, .slice a6 al c6] 48 (0, 0)) := by
      rw [← hw9, setCell_block (set2 HP.out _)]; rfl
    have HR9 : Hid (w9.ownsRow B0 50 3 (.slice a6 al c6) al (flatA (arcsS f))) := Lib.hid (by
      rw [← hw9]
      exact own_weak (row_setCell (row_setCell HR8.out (show B0 < n5 from HLT.out) _) (show B0 < n5 from HLT.out) _) (Nat.le_of_lt HLT.out))
    have HB9 : Hid (Below B0 w w9) := Lib.hid (by rw [← hw9]; exact (HB8.out.setCell (Nat.le_refl B0) _).setCell (Nat.le_refl B0) _)
    have q0 : w9.cell? ⟨B0, 0, none⟩ = some (.int .u64 0) := (cell_of_row w9 B0 0 _ _ _ hp9).trans rfl
    have q1 : w9.cell? ⟨B0, 1, none⟩ = some (.slice a6 al c6) := (cell_of_row w9 B0 1 _ _ _ hp9).trans rfl
    rw [hw9]
    clear hw9 hp9
    exact bodyPost_ret (v := .agg #[.int .u64 0, .slice a6 al c6]) (by simp [results, Try.results34, go_sem, *]) rfl ⟨_, by first | (rw [HEE.out]; done) | (rw [HEE.out]; rfl), by rw [hal]; exact HR9, HB9⟩
/-- States as cells. -/
def flatM (vs : List (Nat × Value)) : List Value := vs.flatMap fun p => [.int .u64 (p.1 : Nat), p.2]
theorem flatM_snoc (vs : List (Nat × Value)) (p : Nat × Value) : flatM (vs ++ [p]) = flatM vs ++ [.int .u64 (p.1 : Nat), p.2] := by simp [flatM]
theorem flatM_length (vs : List (Nat × Value)) : (flatM vs).length = vs.length * 2 := by
  induction vs with
  | nil => rfl
  | cons q l ih => simp [flatM] at ih ⊢; omega
theorem flatM_at (vs : List (Nat × Value)) : ∀ i (h : i < vs.length) j, j < 2 → (flatM vs)[i * 2 + j]? = [Value.int .u64 (vs[i].1 : Nat), vs[i].2][j]? := by
  induction vs with
  | nil => intro i h; simp at h
  | cons q l ih =>
    intro i h j hj
    have e : flatM (q :: l) = [.int .u64 (q.1 : Nat), q.2] ++ flatM l := rfl
    rw [e]
    cases i with
    | zero => rw [List.getElem?_append_left (by simpa using hj)]; simp
    | succ i =>
      rw [List.getElem?_append_right (by simp; omega)]
      have := ih i (by simpa using h) j hj
      rw [show (i + 1) * 2 + j - [Value.int .u64 (q.1 : Nat), q.2].length = i * 2 + j from by simp; omega, this]
      simp
/-- States, each with arcs of its own, in a row. -/
structure RowsM (w : World) (N : Nat) (v : Value) (vs : List (Nat × Value)) (M : List Sta) : Prop where
  len : vs.length = M.length
  own : w.ownsRow N 48 2 v M.length (flatM vs)
  acc : ∀ i (h : i < vs.length) (h' : i < M.length), vs[i].1 = M[i].acc
  row : ∀ i (h : i < vs.length) (h' : i < M.length), w.ownsRow N 50 3 vs[i].2 M[i].arcs.length (flatA M[i].arcs)
theorem RowsM.below {w w' : World} {N : Nat} {v : Value} {vs : List (Nat × Value)} {M : List Sta} (h : RowsM w N v vs M) (hb : Below w.heap.size w w') : RowsM w' N v vs M :=
  ⟨h.len, own_below h.own hb, h.acc, fun i h1 h2 => own_below (h.row i h1 h2) hb⟩
theorem RowsM.nil (w : World) (N : Nat) : RowsM w N (.slice none 0 0) [] [] := ⟨rfl, World.ownsRow_nil _ _ _ _, fun i h => by simp at h, fun i h => by simp at h⟩
theorem arc_grown {w w7 w8 : World} {N n sz : Nat} {v u : Value} {xs : List Value} {l : List Arc3} (h : w.ownsRow N 50 3 u l.length (flatA l)) (hv : w.ownsRow N 48 sz v n xs) (h7 : Below w.heap.size w w7) (h3 : w7.grownBy w8 v.ownBlock) : w8.ownsRow N 50 3 u l.length (flatA l) :=
  row_keep h fun g cs hg hgc => by
    have hne : some g ≠ v.ownBlock := fun e => by
      obtain ⟨c2, h2⟩ := row_block hv e.symm
      rw [hgc] at h2
      injection h2 with h2
      injection h2 with _ h2 _
      exact absurd h2 (by decide)
    have h1 := (h7.block g (lt_of_block hgc)).trans hgc
    exact (h3.block g (lt_of_block h1) hne).trans h1
theorem RowsM.push {w w7 w8 : World} {N : Nat} {v u u' : Value} {vs : List (Nat × Value)} {M : List Sta} {s : Sta} (h : RowsM w N v vs M) (hu : w.ownsRow N 50 3 u s.arcs.length (flatA s.arcs)) (h7 : Below w.heap.size w w7) (h3 : w7.grownBy w8 v.ownBlock) (h2 : w8.ownsRow N 48 2 u' (M.length + 1) (flatM vs ++ [.int .u64 (s.acc : Nat), u])) : RowsM w8 N u' (vs ++ [(s.acc, u)]) (M ++ [s]) := by
  refine ⟨by simp [h.len], by rw [List.length_append, List.length_singleton, flatM_snoc]; exact h2, fun i h1 h1' => ?_, fun i h1 h1' => ?_⟩
  · by_cases e : i < vs.length
    · simp only [List.getElem_append_left e, List.getElem_append_left (show i < M.length by rw [← h.len]; exact e)]
      exact h.acc i e (by rw [← h.len]; exact e)
    · obtain rfl : i = vs.length := by simp at h1; omega
      have e2 : (vs ++ [(s.acc, u)])[vs.length] = (s.acc, u) := by simp
      have e3 : (M ++ [s])[vs.length] = s := by simp [h.len]
      rw [e2, e3]
  · by_cases e : i < vs.length
    · simp only [List.getElem_append_left e, List.getElem_append_left (show i < M.length by rw [← h.len]; exact e)]
      exact arc_grown (h.row i e (by rw [← h.len]; exact e)) h.own h7 h3
    · obtain rfl : i = vs.length := by simp at h1; omega
      have e2 : (vs ++ [(s.acc, u)])[vs.length] = (s.acc, u) := by simp
      have e3 : (M ++ [s])[vs.length] = s := by simp [h.len]
      rw [e2, e3]
      exact arc_grown hu h.own h7 h3
theorem RowsM.mach {w : World} {N : Nat} {v : Value} {vs : List (Nat × Value)} {M : List Sta} (h : RowsM w N v vs M) : MachAt w v M := by
  have h0 := h.own
  rcases h0.2 with ⟨rfl, h1⟩ | ⟨g, cap, cur, rfl, _⟩
  · have : M = [] := List.eq_nil_of_length_eq_zero h1
    subst this; exact MachAt.nil w
  · refine ⟨_, cap, rfl, fun i hi => ?_⟩
    have hv : i < vs.length := by rw [h.len]; exact hi
    refine ⟨g, 0, vs[i].2, rfl, ?_, ?_, arcs_of_row (h.row i hv hi)⟩
    · rw [Nat.zero_add]
      have := h0.cellAt (i * 2) (by omega)
      rw [this]
      have := flatM_at vs i hv 0 (by omega)
      rw [Nat.add_zero] at this
      rw [this, h.acc i hv hi]; rfl
    · rw [Nat.zero_add, h0.cellAt (i * 2 + 1) (by omega), flatM_at vs i hv 1 (by omega)]; rfl
end Go.Proofs.Ytiikmpgadmmjeaa
