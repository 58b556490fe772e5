/- Texts that a proof rests on: A machine's ways, by the states from which they lead. | The contract of newWalker. | The contract of newWalker. -/
import Derived.Test.YtpfhhdiipedklaaDoorK19
import Derived.Test.YtpfhhdiipedklaaDoorK12
set_option maxRecDepth 100000
namespace Go.Proofs.YtpfhhdiipedklaaDoor
open Go.RowKit

theorem infoI : (Tryd.prog.info? 3).map (fun i => (i.zero, i.size, i.bytes)) = some (some (.int .i64 0), 1, 8) := by kernel_rfl
theorem flE_at {l : List (Nat × Nat)} {i : Nat} (h : i < l.length) : (flE l)[i * 2]? = some (.int .i64 l[i].1) ∧ (flE l)[i * 2 + 1]? = some (.int .i64 l[i].2) := by
  induction l generalizing i with
  | nil => simp at h
  | cons x xs ih =>
    cases i with
    | zero => simp [flE]
    | succ i =>
      have := ih (i := i) (by simpa using h)
      simpa [flE, Nat.add_mul] using this
theorem flA_at {l : List (Nat × Nat × BitVec 256)} {i : Nat} (h : i < l.length) : ∀ j, j < 6 → (flA l)[i * 6 + j]? = [.int .i64 l[i].1, .int .i64 l[i].2.1, .int .u64 (wd l[i].2.2 0), .int .u64 (wd l[i].2.2 1), .int .u64 (wd l[i].2.2 2), .int .u64 (wd l[i].2.2 3)][j]? := by
  induction l generalizing i with
  | nil => simp at h
  | cons x xs ih =>
    intro j hj
    cases i with
    | zero => 
      have : flA (x :: xs) = [.int .i64 x.1, .int .i64 x.2.1, .int .u64 (wd x.2.2 0), .int .u64 (wd x.2.2 1), .int .u64 (wd x.2.2 2), .int .u64 (wd x.2.2 3)] ++ flA xs := by simp [flA]
      rw [this, List.getElem?_append_left (by simp; omega)]
      simp
    | succ i =>
      have h1 := ih (i := i) (by simpa using h) j hj
      have : flA (x :: xs) = [.int .i64 x.1, .int .i64 x.2.1, .int .u64 (wd x.2.2 0), .int .u64 (wd x.2.2 1), .int .u64 (wd x.2.2 2), .int .u64 (wd x.2.2 3)] ++ flA xs := by simp [flA]
      rw [this, List.getElem?_append_right (by simp; omega)]
      simp only [List.length_cons, List.length_nil, List.getElem_cons_succ]
      rw [show (i + 1) * 6 + j - (0 + 1 + 1 + 1 + 1 + 1 + 1) = i * 6 + j by omega]
      exact h1
theorem flE_len (l : List (Nat × Nat)) : (flE l).length = l.length * 2 := by induction l with | nil => rfl | cons x xs ih => simp [flE] at ih ⊢; omega
theorem flA_len (l : List (Nat × Nat × BitVec 256)) : (flA l).length = l.length * 6 := by induction l with | nil => rfl | cons x xs ih => simp [flA] at ih ⊢; omega
theorem row_cell {w : World} {base n sz : Nat} {e : TypeId} {v : Value} {l : List Value} (h : w.ownsRow base e sz v n l) (hl : 0 < n) : ∃ b c, v = .slice (some ⟨b, 0, none⟩) n c ∧ ∀ j u, l[j]? = some u → w.cell? ⟨b, j, none⟩ = some u := by
  rcases h.2 with ⟨_, h2⟩ | ⟨g, cap, cur, rfl, _, hgb, _, _, _, hct⟩
  · omega
  · refine ⟨g, cap, rfl, fun j u hj => ?_⟩
    rw [cell_of_row w g j _ _ _ hgb]
    rw [← hct, List.getElem?_take] at hj
    split at hj
    · simpa using hj
    · cases hj
theorem RowE.form {w : World} {v : Value} {l : List (Nat × Nat)} (h : RowE w v l) : ∃ a c, v = .slice a l.length c := by
  obtain ⟨base, h⟩ := h
  rcases h.2 with ⟨rfl, h2⟩ | ⟨g, cap, cur, rfl, _⟩
  · exact ⟨none, 0, by rw [h2]⟩
  · exact ⟨_, _, rfl⟩
theorem RowA.form {w : World} {v : Value} {l : List (Nat × Nat × BitVec 256)} (h : RowA w v l) : ∃ a c, v = .slice a l.length c := by
  obtain ⟨base, h⟩ := h
  rcases h.2 with ⟨rfl, h2⟩ | ⟨g, cap, cur, rfl, _⟩
  · exact ⟨none, 0, by rw [h2]⟩
  · exact ⟨_, _, rfl⟩
theorem RowE.at {w : World} {v : Value} {l : List (Nat × Nat)} (h : RowE w v l) {i : Nat} (hi : i < l.length) : ∃ b c, v = .slice (some ⟨b, 0, none⟩) l.length c ∧ w.cell? ⟨b, i * 2, none⟩ = some (.int .i64 l[i].1) ∧ w.cell? ⟨b, i * 2 + 1, none⟩ = some (.int .i64 l[i].2) := by
  obtain ⟨base, h⟩ := h
  obtain ⟨b, c, e, h2⟩ := row_cell h (by omega)
  exact ⟨b, c, e, h2 _ _ (flE_at hi).1, h2 _ _ (flE_at hi).2⟩
theorem RowA.at {w : World} {v : Value} {l : List (Nat × Nat × BitVec 256)} (h : RowA w v l) {i : Nat} (hi : i < l.length) : ∃ b c, v = .slice (some ⟨b, 0, none⟩) l.length c ∧ ∀ j u, j < 6 → [.int .i64 l[i].1, .int .i64 l[i].2.1, .int .u64 (wd l[i].2.2 0), .int .u64 (wd l[i].2.2 1), .int .u64 (wd l[i].2.2 2), .int .u64 (wd l[i].2.2 3)][j]? = some u → w.cell? ⟨b, i * 6 + j, none⟩ = some u := by
  obtain ⟨base, h⟩ := h
  obtain ⟨b, c, e, h2⟩ := row_cell h (by omega)
  exact ⟨b, c, e, fun j u hj hu => h2 _ _ ((flA_at hi j hj).trans hu)⟩
/-- The steps by nothing from a state; those by bytes. -/
def epsF (E : List (Nat × Nat)) (k : Int) : List (List Value) := (E.filter fun x => decide ((x.1 : Int) = k)).map fun x => [.int .i64 x.2]
def arcF (A : List (Nat × Nat × BitVec 256)) (k : Int) : List (List Value) := (A.filter fun x => decide ((x.1 : Int) = k)).map fun x => [.int .i64 x.1, .int .i64 x.2.1, .int .u64 (wd x.2.2 0), .int .u64 (wd x.2.2 1), .int .u64 (wd x.2.2 2), .int .u64 (wd x.2.2 3)]
theorem epsF_take {E : List (Nat × Nat)} {i : Nat} (h : i < E.length) : epsF (E.take (i + 1)) = fun k => if k = (E[i].1 : Int) then epsF (E.take i) (E[i].1 : Int) ++ [[.int .i64 E[i].2]] else epsF (E.take i) k := by
  funext k
  unfold epsF
  rw [List.take_succ_eq_append_getElem h, List.filter_append, List.map_append]
  by_cases hk : k = (E[i].1 : Int)
  · subst hk; simp
  · have : ¬ (E[i].1 : Int) = k := fun e => hk e.symm
    simp [hk, this]
theorem arcF_take {A : List (Nat × Nat × BitVec 256)} {i : Nat} (h : i < A.length) : arcF (A.take (i + 1)) = fun k => if k = (A[i].1 : Int) then arcF (A.take i) (A[i].1 : Int) ++ [[.int .i64 A[i].1, .int .i64 A[i].2.1, .int .u64 (wd A[i].2.2 0), .int .u64 (wd A[i].2.2 1), .int .u64 (wd A[i].2.2 2), .int .u64 (wd A[i].2.2 3)]] else arcF (A.take i) k := by
  funext k
  unfold arcF
  rw [List.take_succ_eq_append_getElem h, List.filter_append, List.map_append]
  by_cases hk : k = (A[i].1 : Int)
  · subst hk; simp
  · have : ¬ (A[i].1 : Int) = k := fun e => hk e.symm
    simp [hk, this]
theorem epsF_len (E : List (Nat × Nat)) (k : Int) : (epsF E k).length ≤ E.length := by unfold epsF; rw [List.length_map]; exact List.length_filter_le _ _
theorem arcF_len (A : List (Nat × Nat × BitVec 256)) (k : Int) : (arcF A k).length ≤ A.length := by unfold arcF; rw [List.length_map]; exact List.length_filter_le _ _
/-- The state of newWalker's loops. -/
structure WkI (w0 wr : World) (N : Nat) (n : Int) (ve va : Value) (b1 b2 bw : Nat) (F1 F2 : Int → List (List Value)) : Prop where
  below : Below N w0 wr
  big : N + 5 ≤ wr.heap.size
  far : N + 2 ≤ b1 ∧ N + 2 ≤ b2 ∧ N + 2 ≤ bw ∧ b1 ≠ b2
  box : wr.heap[N]? = some (.cells #[.int .i64 n, ve, va, .int .i64 0, .int .i64 1] 27 (0, 0))
  res : wr.heap[N + 1]? = some (.cells #[.int .i64 0, .map none, .map none] 71 (0, 0))
  var : wr.heap[bw]? = some (.cells #[.int .i64 n, .map (some b1), .map (some b2)] 71 (0, 0))
  g1 : GM wr b1 N 3 1 F1
  g2 : GM wr b2 N 78 6 F2
end Go.Proofs.YtpfhhdiipedklaaDoor
set_option maxRecDepth 100000
namespace Go.Proofs.YtpfhhdiipedklaaDoor
open Go.RowKit

/-- A walker: how many states, where it goes by nothing, and by bytes. -/
structure Walker (w : World) (b1 b2 : Nat) (E : List (Nat × Nat)) (A : List (Nat × Nat × BitVec 256)) : Prop where
  e : ∃ B, GM w b1 B 3 1 (epsF E)
  a : ∃ B, GM w b2 B 78 6 (arcF A)
theorem Walker.below {w w' : World} {b1 b2 : Nat} {E : List (Nat × Nat)} {A : List (Nat × Nat × BitVec 256)} (h : Walker w b1 b2 E A) (hb : Below w.heap.size w w') : Walker w' b1 b2 E A := by
  obtain ⟨⟨B, h1⟩, ⟨B2, h2⟩⟩ := h
  exact ⟨⟨B, h1.below hb⟩, ⟨B2, h2.below hb⟩⟩
theorem WkI.next {w0 w w' : World} {N : Nat} {n : Int} {ve va : Value} {b1 b2 bw : Nat} {F1 F2 : Int → List (List Value)} (h : WkI w0 w N n ve va b1 b2 bw F1 F2) (hb : Below w.heap.size w w') : WkI w0 w' N n ve va b1 b2 bw F1 F2 :=
  ⟨h.below.trans (hb.mono (by have := h.big; omega)), by have := h.big; have := hb.size; omega, h.far, (hb.block _ (lt_of_block h.box)).trans h.box, (hb.block _ (lt_of_block h.res)).trans h.res, (hb.block _ (lt_of_block h.var)).trans h.var, h.g1.below hb, h.g2.below hb⟩
/-- The zero rows of the maps. -/
theorem zero_ints (w : World) : (zeroValue 22).run Tryd.prog w = .ok (.slice none 0 0) w := by kernel_rfl
theorem zero_arcs (w : World) : (zeroValue 25).run Tryd.prog w = .ok (.slice none 0 0) w := by kernel_rfl
theorem look_fix {w : World} {b cn : Nat} {es : Array MapEntry} {t e : TypeId} {k : Int} {v : Value} (hm : Tryd.prog.underlying t = some (.map 3 e)) (hz : ∀ w, (zeroValue e).run Tryd.prog w = .ok (.slice none 0 0) w) (h : Keyd es) (hv : IsAt es k v) (hb : w.heap[b]? = some (.map es cn)) :
    (Instr.lookup t (.map (some b)) (.int .i64 k) false).run Tryd.prog w = .ok v w := by
  obtain ⟨v2, h1, h2⟩ := look_int hm (hz w) hb h k
  rw [IsAt.same h hv h1]; exact h2
theorem WkI.push_e {w0 w5 w7 w8 : World} {N n1 cn g cap : Nat} {n k : Int} {ve va v : Value} {b1 b2 bw : Nat} {F1 F2 : Int → List (List Value)} {es : Array MapEntry} {x : List Value} (h : WkI w0 w5 N n ve va b1 b2 bw F1 F2)
    (he : w5.heap[b1]? = some (.map es cn)) (hv : IsAt es k v) (hn : (F1 k).length = n1) (h7 : Below w5.heap.size w5 w7) (hg : w7.grownBy w8 v.ownBlock)
    (hrow : w8.ownsRow N 3 1 (.slice (some ⟨g, 0, none⟩) (n1 + 1) cap) (n1 + 1) ((F1 k).flatten ++ x)) (hat : v.ownBlock = some g ∨ w5.heap.size ≤ g) :
    (∀ (j : Nat) (o : Obj), w5.heap[j]? = some o → (∀ cs : Array Value, o ≠ .cells cs 3 (0, 0)) → w8.heap[j]? = some o) ∧
    ∃ w9, (Instr.mapUpdate 68 (.map (some b1)) (.int .i64 k) (.slice (some ⟨g, 0, none⟩) (n1 + 1) cap)).run Tryd.prog w8 = .ok () w9 ∧ WkI w0 w9 N n ve va b1 b2 bw (fun j => if j = k then F1 k ++ [x] else F1 j) F2 := by
  obtain ⟨es0, c0, he0, hkd, hrows, hdis⟩ := h.g1.map
  rw [he] at he0
  obtain ⟨rfl, rfl⟩ : es = es0 ∧ cn = c0 := by cases he0; exact ⟨rfl, rfl⟩
  have hrv : w5.ownsRow N 3 1 v (F1 k).length (F1 k).flatten := by
    obtain ⟨v2, h5, h6⟩ := hrows k
    obtain rfl := IsAt.same hkd h5 hv
    exact h6
  have hno : ∀ (j : Nat) (o : Obj), w5.heap[j]? = some o → (∀ cs : Array Value, o ≠ .cells cs 3 (0, 0)) → v.ownBlock ≠ some j := fun j o h1 h2 h3 => by
    obtain ⟨cs, h4⟩ := row_block hrv h3
    rw [h1] at h4; cases h4; exact h2 cs rfl
  have h8 : ∀ (j : Nat) (o : Obj), w5.heap[j]? = some o → (∀ cs : Array Value, o ≠ .cells cs 3 (0, 0)) → w8.heap[j]? = some o := fun j o h1 h2 => by
    have hj := lt_of_block h1
    rw [hg.block j (by have := h7.size; omega) (fun e => hno j o h1 h2 e.symm), h7.block j hj]; exact h1
  obtain ⟨w9, hrun, hgm, hsz9, hbl9, hkeep⟩ := h.g1.push (x := x) Tryd.underlying68 he hv hn h7 hg hrow hat
  have hbl : Below N w0 w8 := (h.below.trans (h7.mono (by have := h.big; omega))).grown hg (by have := h.big; have := h7.size; omega) (fun k hk => (hrv.lt k hk).1)
  have hfar := h.far
  have hk9 : ∀ (j : Nat) (o : Obj), w5.heap[j]? = some o → j ≠ b1 → (∀ cs : Array Value, o ≠ .cells cs 3 (0, 0)) → w9.heap[j]? = some o := fun j o h1 h2 h3 => hkeep j o h1 h2 (hno j o h1 h3)
  have hbn : ∀ j cs t, w5.heap[j]? = some (.cells cs t (0, 0)) → j ≠ b1 := fun j cs t h1 e => by subst e; rw [he] at h1; cases h1
  refine ⟨h8, w9, hrun, ⟨hbl.trans (hbl9 N (by omega)), by have := h.big; have := h7.size; have := hg.size; omega, hfar, hk9 _ _ h.box (hbn _ _ _ h.box) (fun cs e => by cases e), hk9 _ _ h.res (hbn _ _ _ h.res) (fun cs e => by cases e), hk9 _ _ h.var (hbn _ _ _ h.var) (fun cs e => by cases e), hgm, h.g2.keep (fun es c h1 => hk9 _ _ h1 (by omega) (fun cs e => by cases e)) (fun g cs h1 _ => hk9 _ _ h1 (hbn _ _ _ h1) (fun cs e => by cases e))⟩⟩
theorem WkI.push_a {w0 w5 w7 w8 : World} {N n1 cn g cap : Nat} {n k : Int} {ve va v : Value} {b1 b2 bw : Nat} {F1 F2 : Int → List (List Value)} {es : Array MapEntry} {x : List Value} (h : WkI w0 w5 N n ve va b1 b2 bw F1 F2)
    (he : w5.heap[b2]? = some (.map es cn)) (hv : IsAt es k v) (hn : (F2 k).length = n1) (h7 : Below w5.heap.size w5 w7) (hg : w7.grownBy w8 v.ownBlock)
    (hrow : w8.ownsRow N 78 6 (.slice (some ⟨g, 0, none⟩) (n1 + 1) cap) (n1 + 1) ((F2 k).flatten ++ x)) (hat : v.ownBlock = some g ∨ w5.heap.size ≤ g) :
    (∀ (j : Nat) (o : Obj), w5.heap[j]? = some o → (∀ cs : Array Value, o ≠ .cells cs 78 (0, 0)) → w8.heap[j]? = some o) ∧
    ∃ w9, (Instr.mapUpdate 69 (.map (some b2)) (.int .i64 k) (.slice (some ⟨g, 0, none⟩) (n1 + 1) cap)).run Tryd.prog w8 = .ok () w9 ∧ WkI w0 w9 N n ve va b1 b2 bw F1 (fun j => if j = k then F2 k ++ [x] else F2 j) := by
  obtain ⟨es0, c0, he0, hkd, hrows, hdis⟩ := h.g2.map
  rw [he] at he0
  obtain ⟨rfl, rfl⟩ : es = es0 ∧ cn = c0 := by cases he0; exact ⟨rfl, rfl⟩
  have hrv : w5.ownsRow N 78 6 v (F2 k).length (F2 k).flatten := by
    obtain ⟨v2, h5, h6⟩ := hrows k
    obtain rfl := IsAt.same hkd h5 hv
    exact h6
  have hno : ∀ (j : Nat) (o : Obj), w5.heap[j]? = some o → (∀ cs : Array Value, o ≠ .cells cs 78 (0, 0)) → v.ownBlock ≠ some j := fun j o h1 h2 h3 => by
    obtain ⟨cs, h4⟩ := row_block hrv h3
    rw [h1] at h4; cases h4; exact h2 cs rfl
  have h8 : ∀ (j : Nat) (o : Obj), w5.heap[j]? = some o → (∀ cs : Array Value, o ≠ .cells cs 78 (0, 0)) → w8.heap[j]? = some o := fun j o h1 h2 => by
    have hj := lt_of_block h1
    rw [hg.block j (by have := h7.size; omega) (fun e => hno j o h1 h2 e.symm), h7.block j hj]; exact h1
  obtain ⟨w9, hrun, hgm, hsz9, hbl9, hkeep⟩ := h.g2.push (x := x) Tryd.underlying69 he hv hn h7 hg hrow hat
  have hbl : Below N w0 w8 := (h.below.trans (h7.mono (by have := h.big; omega))).grown hg (by have := h.big; have := h7.size; omega) (fun k hk => (hrv.lt k hk).1)
  have hfar := h.far
  have hk9 : ∀ (j : Nat) (o : Obj), w5.heap[j]? = some o → j ≠ b2 → (∀ cs : Array Value, o ≠ .cells cs 78 (0, 0)) → w9.heap[j]? = some o := fun j o h1 h2 h3 => hkeep j o h1 h2 (hno j o h1 h3)
  have hbn : ∀ j cs t, w5.heap[j]? = some (.cells cs t (0, 0)) → j ≠ b2 := fun j cs t h1 e => by subst e; rw [he] at h1; cases h1
  refine ⟨h8, w9, hrun, ⟨hbl.trans (hbl9 N (by omega)), by have := h.big; have := h7.size; have := hg.size; omega, hfar, hk9 _ _ h.box (hbn _ _ _ h.box) (fun cs e => by cases e), hk9 _ _ h.res (hbn _ _ _ h.res) (fun cs e => by cases e), hk9 _ _ h.var (hbn _ _ _ h.var) (fun cs e => by cases e), h.g1.keep (fun es c h1 => hk9 _ _ h1 (by omega) (fun cs e => by cases e)) (fun g cs h1 _ => hk9 _ _ h1 (hbn _ _ _ h1) (fun cs e => by cases e)), hgm⟩⟩
end Go.Proofs.YtpfhhdiipedklaaDoor
set_option maxRecDepth 100000
namespace Go.Proofs.YtpfhhdiipedklaaDoor
open Go.RowKit

set_option linter.unusedSimpArgs false in
set_option maxHeartbeats 16000000 in
theorem newWalker_any (n : Int) (E : List (Nat × Nat)) (A : List (Nat × Nat × BitVec 256)) (ve va : Value) (w : World) (hE : RowE w ve E) (hA : RowA w va A) (hle : E.length ≤ 20000) (hla : A.length ≤ 20000) :
    Calls Tryd.prog 28 #[.agg #[.int .i64 n, ve, va, .int .i64 0, .int .i64 1]] w fun e w' => ∃ b1 b2, e = .returned (.agg #[.int .i64 n, .map (some b1), .map (some b2)]) ∧ Hid (Walker w' b1 b2 E A) ∧ Hid (Below w.heap.size w w') := by
  obtain ⟨ae, ce, rfl⟩ := hE.form
  obtain ⟨aa, ca, rfl⟩ := hA.form
  obtain ⟨i0, hi0, hz0, hz1, hz2⟩ := info_parts infoI
  have HI := Lib.hid (And.intro hi0 (And.intro hz0 (And.intro hz1 hz2)))
  obtain ⟨i1, hi1, hy0, hy1, hy2⟩ := info_parts infoArc
  have HJ := Lib.hid (And.intro hi1 (And.intro hy0 (And.intro hy1 hy2)))
  clear hi0 hz0 hz1 hz2 hi1 hy0 hy1 hy2
  have mixed : Tryd.prog.follows .mixedOrders = true := by kernel_rfl
  obtain ⟨N, hN⟩ : ∃ N, w.heap.size = N := ⟨_, rfl⟩
  have hmm1 := run_makeMap (P := Tryd.prog) 68
  have hmm2 := run_makeMap (P := Tryd.prog) 69
  have hw4 : WkI w (((((w.alloc (.cells #[.int .i64 n, .slice ae E.length ce, .slice aa A.length ca, .int .i64 0, .int .i64 1] 27)).alloc (.cells #[.int .i64 0, .map none, .map none] 71)).alloc (.map #[] 0)).alloc (.map #[] 0)).alloc (.cells #[.int .i64 n, .map (some (N + 1 + 1)), .map (some (N + 1 + 1 + 1))] 71)) N n (.slice ae E.length ce) (.slice aa A.length ca) (N + 1 + 1) (N + 1 + 1 + 1) (N + 1 + 1 + 1 + 1) (epsF (E.take 0)) (arcF (A.take 0)) := by
    have s1 : (w.alloc (.cells #[.int .i64 n, .slice ae E.length ce, .slice aa A.length ca, .int .i64 0, .int .i64 1] 27)).heap.size = N + 1 := by simp [hN]
    generalize hu1 : w.alloc (.cells #[.int .i64 n, .slice ae E.length ce, .slice aa A.length ca, .int .i64 0, .int .i64 1] 27) = u1 at *
    have b1 : Below N w u1 := by rw [← hu1, ← hN]; exact new_one w _
    have x1 : u1.heap[N]? = some (.cells #[.int .i64 n, .slice ae E.length ce, .slice aa A.length ca, .int .i64 0, .int .i64 1] 27 (0, 0)) := by rw [← hu1, ← hN]; exact heap_alloc_new w _
    have s2 : (u1.alloc (.cells #[.int .i64 0, .map none, .map none] 71)).heap.size = N + 2 := by simp [s1]
    have x2 := heap_alloc_new u1 (.cells #[.int .i64 0, .map none, .map none] 71)
    have b2 := new_one u1 (.cells #[.int .i64 0, .map none, .map none] 71)
    rw [s1] at x2 b2
    generalize hu2 : u1.alloc (.cells #[.int .i64 0, .map none, .map none] 71) = u2 at *
    have s3 : (u2.alloc (.map #[] 0)).heap.size = N + 3 := by simp [s2]
    have x3 := heap_alloc_new u2 (.map #[] 0)
    have b3 := new_one u2 (.map #[] 0)
    rw [s2] at x3 b3
    generalize hu3 : u2.alloc (.map #[] 0) = u3 at *
    have s4 : (u3.alloc (.map #[] 0)).heap.size = N + 4 := by simp [s3]
    have x4 := heap_alloc_new u3 (.map #[] 0)
    have b4 := new_one u3 (.map #[] 0)
    rw [s3] at x4 b4
    generalize hu4 : u3.alloc (.map #[] 0) = u4 at *
    have x5 := heap_alloc_new u4 (.cells #[.int .i64 n, .map (some (N + 1 + 1)), .map (some (N + 1 + 1 + 1))] 71)
    have b5 := new_one u4 (.cells #[.int .i64 n, .map (some (N + 1 + 1)), .map (some (N + 1 + 1 + 1))] 71)
    have s5 : (u4.alloc (.cells #[.int .i64 n, .map (some (N + 1 + 1)), .map (some (N + 1 + 1 + 1))] 71)).heap.size = N + 5 := by simp [s4]
    rw [s4] at x5 b5
    have bb : Below (N + 1) u1 (u4.alloc (.cells #[.int .i64 n, .map (some (N + 1 + 1)), .map (some (N + 1 + 1 + 1))] 71)) := ((b2.trans (b3.mono (by omega))).trans (b4.mono (by omega))).trans (b5.mono (by omega))
    have bc : Below (N + 2) u2 (u4.alloc (.cells #[.int .i64 n, .map (some (N + 1 + 1)), .map (some (N + 1 + 1 + 1))] 71)) := (b3.trans (b4.mono (by omega))).trans (b5.mono (by omega))
    have bd : Below (N + 3) u3 (u4.alloc (.cells #[.int .i64 n, .map (some (N + 1 + 1)), .map (some (N + 1 + 1 + 1))] 71)) := b4.trans (b5.mono (by omega))
    exact ⟨b1.trans (bb.mono (by omega)), by omega, by omega, (bb.block N (by omega)).trans x1, (bc.block (N + 1) (by omega)).trans x2, x5, GM.new _ _ ((bd.block (N + 2) (by omega)).trans x3), GM.new _ _ ((b5.block (N + 3) (by omega)).trans x4)⟩
  have HREL := Lib.hid (show ∀ wr, Below N w wr → RowE wr (.slice ae E.length ce) E from fun wr hb => hE.below (by rw [hN]; exact hb))
  have HRAL := Lib.hid (show ∀ wr, Below N w wr → RowA wr (.slice aa A.length ca) A from fun wr hb => hA.below (by rw [hN]; exact hb))
  clear hE hA
  rw [hN]
  go_enter Tryd.func28, Tryd.ntmps28
  go_upto_region 2 with fail
  generalize hwe : ((((w.alloc (.cells #[.int .i64 n, .slice ae E.length ce, .slice aa A.length ca, .int .i64 0, .int .i64 1] 27)).alloc (.cells #[.int .i64 0, .map none, .map none] 71)).alloc (.map #[] 0)).alloc (.map #[] 0)).alloc (.cells #[.int .i64 n, .map (some (N + 1 + 1)), .map (some (N + 1 + 1 + 1))] 71) = w4 at *
  clear hwe hmm1 hmm2
  generalize hbwe : N + 1 + 1 + 1 + 1 = bw at *
  generalize hb2e : N + 1 + 1 + 1 = b2 at *
  generalize hb1e : N + 1 + 1 = b1 at *
  clear hbwe hb2e hb1e
  have HW4 := Lib.hid hw4
  obtain ⟨c0, c1, c2, _⟩ := nfa_cells hw4.box
  clear hw4
  go_wp2
  clear c0 c1 c2
  go_loopw [16] (fun x wr => ∃ k : Nat, x = .int .i64 k ∧ k ≤ E.length ∧ Hid (WkI w wr N n (.slice ae E.length ce) (.slice aa A.length ca) b1 b2 bw (epsF (E.take k)) (arcF (A.take 0)))) (fun x _ => E.length - (intOf x).toNat)
  case atStart => exact ⟨0, rfl, Nat.zero_le _, HW4⟩
  case round =>
    obtain ⟨k, rfl, hkl, HK⟩ := hrel
    by_cases hlt : k < E.length
    · have hdd : decide ((k : Int) < E.length) = true := by simpa using hlt
      obtain ⟨eb, ec, e, e0, e1⟩ := (HREL.out wr HK.out.below).at hlt
      cases e
      have HFT := Lib.hid (epsF_take hlt)
      have hfl := epsF_len (E.take k) (E[k].1 : Int)
      rw [List.length_take] at hfl
      generalize E[k].1 = x at *
      generalize E[k].2 = y at *
      go_upto_region 5 with fail
      obtain ⟨g, hg⟩ : ∃ g, wr.heap.size = g := ⟨_, rfl⟩
      obtain ⟨w5, hw5⟩ : ∃ w5, wr.alloc (.cells #[.int .i64 x, .int .i64 y] 75) = w5 := ⟨_, rfl⟩
      have hb5 : Below wr.heap.size wr w5 := by rw [← hw5]; exact new_one wr _
      have hx5 : w5.heap[g]? = some (.cells #[.int .i64 x, .int .i64 y] 75 (0, 0)) := by rw [← hw5, ← hg]; exact heap_alloc_new wr _
      have hs5 : w5.heap.size = g + 1 := by rw [← hw5]; simp [hg]
      have hK5 := HK.out.next hb5
      rw [hw5, hg]
      clear hw5 hb5 e0 e1
      obtain ⟨es, cn, hes, hkd, hro, hdi⟩ := hK5.g1.map
      obtain ⟨v, hv, hrv⟩ := hro x
      have HV := Lib.hid hv
      have HES := Lib.hid hes
      have HLK := Lib.hid (fun (W : World) hW => look_fix (t := 68) (e := 22) (w := W) (cn := cn) (b := b1) Tryd.underlying68 zero_ints hkd hv hW)
      have HRV := Lib.hid (row_keep (w' := w5.drew.alloc (.cells #[.int .i64 y] 3)) hrv fun g2 cs _ h1 => (heap_alloc_old w5.drew _ (lt_of_block h1)).trans h1)
      have f0 : w5.drew.cell? ⟨bw, 1, none⟩ = some (.map (some b1)) := (cell_of_row w5 _ 1 _ _ _ hK5.var).trans rfl
      have f1 : w5.drew.cell? ⟨g, 0, none⟩ = some (.int .i64 x) := (cell_of_row w5 _ 0 _ _ _ hx5).trans rfl
      have f2 : w5.drew.cell? ⟨g, 1, none⟩ = some (.int .i64 y) := (cell_of_row w5 _ 1 _ _ _ hx5).trans rfl
      have HK5 := Lib.hid hK5
      have HX5 := Lib.hid hx5
      have hbig := hK5.big
      have hfar := Lib.hid hK5.far
      obtain ⟨n0, hn0⟩ : ∃ n0, (epsF (E.take k) x).length = n0 := ⟨_, rfl⟩
      rw [hn0] at hfl HRV
      have fm : w5.drew.heap[b1]? = some (.map es cn) := hes
      clear hv hrv hro hdi hkd hes hx5 hK5
      refine region_goes 13 14 rfl (fun W => W.cell? ⟨bw, 1, none⟩ = some (.map (some b1)) ∧ W.cell? ⟨g, 0, none⟩ = some (.int .i64 x) ∧ W.cell? ⟨g, 1, none⟩ = some (.int .i64 y) ∧ W.heap[b1]? = some (.map es cn)) mixed ⟨f0, f1, f2, fm⟩ (fun hHeld => ?_)
      clear fm f0 f1 f2
      refine goes_take (i := 0) (v := ?gv1) rfl (by kernel_rfl) (by kernel_rfl) (by kernel_rfl) (by kernel_rfl) (fun _ _ _ h => h) (Or.inl ⟨by rfl, ?gy1⟩) (by assumption) ?gr1
      case gy1 => (intro W9 hW9; obtain ⟨k0, k1, k2, km⟩ := hW9; first | (go_simp; done) | (go_simp; with_reducible rfl))
      simp only [Act.put, List.getElem_toArray, List.getElem_cons_succ, List.getElem_cons_zero, List.setIfInBounds_toArray, List.set_cons_zero, List.set_cons_succ]
      refine goes_take (i := 1) (v := ?gv2) rfl (by kernel_rfl) (by kernel_rfl) (by kernel_rfl) (by kernel_rfl) (fun _ _ _ h => h) (Or.inl ⟨by rfl, ?gy2⟩) (by assumption) ?gr2
      case gy2 => (intro W9 hW9; obtain ⟨k0, k1, k2, km⟩ := hW9; first | (go_simp; done) | (go_simp; with_reducible rfl))
      simp only [Act.put, List.getElem_toArray, List.getElem_cons_succ, List.getElem_cons_zero, List.setIfInBounds_toArray, List.set_cons_zero, List.set_cons_succ]
      refine goes_take (i := 2) (v := ?gv3) rfl (by kernel_rfl) (by kernel_rfl) (by kernel_rfl) (by kernel_rfl) (fun _ _ _ h => h) (Or.inl ⟨by rfl, ?gy3⟩) (by assumption) ?gr3
      case gy3 => (intro W9 hW9; obtain ⟨k0, k1, k2, km⟩ := hW9; first | (go_simp; done) | (go_simp; with_reducible rfl))
      simp only [Act.put, List.getElem_toArray, List.getElem_cons_succ, List.getElem_cons_zero, List.setIfInBounds_toArray, List.set_cons_zero, List.set_cons_succ]
      refine goes_take (i := 3) (v := ?gv4) rfl (by kernel_rfl) (by kernel_rfl) (by kernel_rfl) (by kernel_rfl) (fun _ _ _ h => h) (Or.inl ⟨by rfl, ?gy4⟩) (by assumption) ?gr4
      case gy4 => (intro W9 hW9; obtain ⟨k0, k1, k2, km⟩ := hW9; first | (go_simp; done) | (go_simp; with_reducible rfl))
      simp only [Act.put, List.getElem_toArray, List.getElem_cons_succ, List.getElem_cons_zero, List.setIfInBounds_toArray, List.set_cons_zero, List.set_cons_succ]
      refine goes_take (i := 4) (v := ?gv5) rfl (by kernel_rfl) (by kernel_rfl) (by kernel_rfl) (by kernel_rfl) (fun _ _ _ h => h) (Or.inl ⟨by rfl, ?gy5⟩) (by assumption) ?gr5
      case gy5 => (intro W9 hW9; obtain ⟨k0, k1, k2, km⟩ := hW9; first | (go_simp; done) | (go_simp; with_reducible rfl))
      simp only [Act.put, List.getElem_toArray, List.getElem_cons_succ, List.getElem_cons_zero, List.setIfInBounds_toArray, List.set_cons_zero, List.set_cons_succ]
      refine goes_take (i := 5) (v := ?gv6) rfl (by kernel_rfl) (by kernel_rfl) (by kernel_rfl) (by kernel_rfl) (fun _ _ _ h => h) (Or.inl ⟨by rfl, ?gy6⟩) (by assumption) ?gr6
      case gy6 => (intro W9 hW9; obtain ⟨k0, k1, k2, km⟩ := hW9; first | (go_simp; done) | (go_simp; with_reducible rfl))
      simp only [Act.put, List.getElem_toArray, List.getElem_cons_succ, List.getElem_cons_zero, List.setIfInBounds_toArray, List.set_cons_zero, List.set_cons_succ]
      refine goes_take (i := 6) (v := ?gv7) rfl (by kernel_rfl) (by kernel_rfl) (by kernel_rfl) (by kernel_rfl) (fun _ _ _ h => h) (Or.inl ⟨by rfl, ?gy7⟩) (by assumption) ?gr7
      case gy7 => (intro W9 hW9; obtain ⟨k0, k1, k2, km⟩ := hW9; first | (go_simp; done) | (go_simp; with_reducible rfl))
      simp only [Act.put, List.getElem_toArray, List.getElem_cons_succ, List.getElem_cons_zero, List.setIfInBounds_toArray, List.set_cons_zero, List.set_cons_succ]
      refine goes_take (i := 7) (v := ?gv8) rfl (by kernel_rfl) (by kernel_rfl) (by kernel_rfl) (by kernel_rfl) (fun _ _ _ h => h) (Or.inl ⟨by rfl, ?gy8⟩) (by assumption) ?gr8
      case gy8 => (intro W9 hW9; obtain ⟨k0, k1, k2, km⟩ := hW9; first | (go_simp; done) | (go_simp; with_reducible rfl))
      simp only [Act.put, List.getElem_toArray, List.getElem_cons_succ, List.getElem_cons_zero, List.setIfInBounds_toArray, List.set_cons_zero, List.set_cons_succ]
      refine goes_take (i := 8) (v := v) rfl (by kernel_rfl) (by kernel_rfl) (by kernel_rfl) (by kernel_rfl) (fun _ _ _ h => h) (Or.inl ⟨by rfl, ?gy9⟩) (by assumption) ?gr9
      case gy9 => (intro W9 hW9; obtain ⟨k0, k1, k2, km⟩ := hW9; have hlk := HLK.out W9 km; go_simp)
      simp only [Act.put, List.getElem_toArray, List.getElem_cons_succ, List.getElem_cons_zero, List.setIfInBounds_toArray, List.set_cons_zero, List.set_cons_succ]
      refine goes_take (i := 9) (v := ?gv10) rfl (by kernel_rfl) (by kernel_rfl) (by kernel_rfl) (by kernel_rfl) (fun _ _ _ h => h) (Or.inl ⟨by rfl, ?gy10⟩) (by assumption) ?gr10
      case gy10 => (intro W9 hW9; obtain ⟨k0, k1, k2, km⟩ := hW9; first | (go_simp; done) | (go_simp; with_reducible rfl))
      simp only [Act.put, List.getElem_toArray, List.getElem_cons_succ, List.getElem_cons_zero, List.setIfInBounds_toArray, List.set_cons_zero, List.set_cons_succ]
      refine goes_take (i := 10) (v := ?gv11) rfl (by kernel_rfl) (by kernel_rfl) (by kernel_rfl) (by kernel_rfl) (fun _ _ _ h => h) (Or.inl ⟨by rfl, ?gy11⟩) (by assumption) ?gr11
      case gy11 => (intro W9 hW9; obtain ⟨k0, k1, k2, km⟩ := hW9; first | (go_simp; done) | (go_simp; with_reducible rfl))
      simp only [Act.put, List.getElem_toArray, List.getElem_cons_succ, List.getElem_cons_zero, List.setIfInBounds_toArray, List.set_cons_zero, List.set_cons_succ]
      refine goes_one (i := 11) (by kernel_rfl) rfl (fun K9 hK9 => ?_)
      go_simp
      have hba := new_one w5.drew (.cells #[.int .i64 y] 3)
      obtain ⟨k0, k1, k2, km⟩ := hHeld
      refine hK9.out _ _ (fun _ => ⟨cell_below hba k0, cell_below hba k1, cell_below hba k2, (hba.block _ (lt_of_block km)).trans km⟩) (fun hHeld => ?_)
      have hHeld := hHeld (by decide)
      clear hK9 K9 k0 k1 k2 km
      refine goes_one (i := 12) (by kernel_rfl) rfl (fun K9 hK9 => ?_)
      rw [if_pos (by rfl)]
      refine wp_append_lies _ _ _ 22 rfl N 3 i0 (.int .i64 0) 1 8 Tryd.underlying22 HI.out.1 HI.out.2.1 HI.out.2.2.1 HI.out.2.2.2 rfl (by decide) v n0 (epsF (E.take k) x).flatten rfl HRV.out ⟨g + 1, 0, none⟩ 1 1 [.int .i64 y] rfl rfl (news_in (cs := #[.int .i64 y]) (by have := heap_alloc_new w5.drew (.cells #[.int .i64 y] 3); rw [show w5.drew.heap.size = g + 1 from hs5] at this; exact this)) (by simp [Value.oneCell']) (by omega) (by unfold maxLen; omega) (by omega) (by show N ≤ (w5.alloc _).heap.size; simp only [World.size_alloc]; omega) (g + 2) (by show (w5.alloc _).heap.size = g + 2; simp only [World.size_alloc]; omega) ?_
      intro g9 cap2 w8 h2 h3 h4 h5
      have h7 : Below w5.heap.size w5 (w5.drew.alloc (.cells #[.int .i64 y] 3)) := (Below.refl _ w5).drew.trans (new_one w5.drew _)
      obtain ⟨h8, w9, hrun, hfin⟩ := HK5.out.push_e (x := [.int .i64 y]) HES.out HV.out hn0 h7 h3 h2 (h4.imp_right fun h => by omega)
      have j0 : w8.cell? ⟨bw, 1, none⟩ = some (.map (some b1)) := (cell_of_row w8 bw 1 _ _ _ (h8 bw _ HK5.out.var (fun cs e => by cases e))).trans rfl
      have j1 : w8.cell? ⟨g, 0, none⟩ = some (.int .i64 x) := (cell_of_row w8 g 0 _ _ _ (h8 g _ HX5.out (fun cs e => by cases e))).trans rfl
      have j2 : w8.cell? ⟨g, 1, none⟩ = some (.int .i64 y) := (cell_of_row w8 g 1 _ _ _ (h8 g _ HX5.out (fun cs e => by cases e))).trans rfl
      refine hK9.out _ _ (fun _ => ⟨j0, j1, j2, h8 b1 _ HES.out (fun cs e => by cases e)⟩) (fun hHeld => ?_)
      have hHeld := hHeld (by decide)
      have HFIN := Lib.hid hfin
      clear hK9 K9 h2 h3 h4 h5 h7 h8 hfin j0 j1 j2 
      refine goes_one (i := 13) (by kernel_rfl) rfl (fun K9 hK9 => ?_)
      go_simp
      refine hK9.out _ _ (fun h => absurd rfl h) (fun _ => ?_)
      clear hK9 K9 hHeld
      refine goes_done (by kernel_rfl) ?_ _
      go_wp2
      refine ⟨⟨k + 1, rfl, hlt, Lib.hid ?_⟩, by simp only [intOf]; omega⟩
      rw [HFT.out]; exact HFIN.out
    · have hdd : decide ((k : Int) < E.length) = false := by simpa using hlt
      obtain rfl : k = E.length := by omega
      obtain ⟨c0, c1, c2, _⟩ := nfa_cells HK.out.box
      rw [List.take_length] at HK
      have HK2 := Lib.hid HK.out
      clear HK
      go_wp2
      clear c0 c1 c2 HREL
      go_loopw [37] (fun x wr => ∃ k : Nat, x = .int .i64 k ∧ k ≤ A.length ∧ Hid (WkI w wr N n (.slice ae E.length ce) (.slice aa A.length ca) b1 b2 bw (epsF E) (arcF (A.take k)))) (fun x _ => A.length - (intOf x).toNat)
      case atStart => exact ⟨0, rfl, Nat.zero_le _, HK2⟩
      clear HK2
      clear hdd hlt hkl
      obtain ⟨k, rfl, hkl, HK⟩ := hrel
      by_cases hlt : k < A.length
      · have hdd : decide ((k : Int) < A.length) = true := by simpa using hlt
        obtain ⟨ab, ac, e, ha⟩ := (HRAL.out wr HK.out.below).at hlt
        cases e
        have HFT := Lib.hid (arcF_take hlt)
        have hfl := arcF_len (A.take k) (A[k].1 : Int)
        rw [List.length_take] at hfl
        have a0 := ha 0 _ (by omega) rfl
        have a1 := ha 1 _ (by omega) rfl
        have a2 := ha 2 _ (by omega) rfl
        have a3 := ha 3 _ (by omega) rfl
        have a4 := ha 4 _ (by omega) rfl
        have a5 := ha 5 _ (by omega) rfl
        clear ha
        generalize A[k].1 = x at *
        generalize A[k].2.1 = y at *
        generalize A[k].2.2 = c at *
        rw [Nat.add_zero] at a0
        go_upto_region 10 with fail
        obtain ⟨g, hg⟩ : ∃ g, wr.heap.size = g := ⟨_, rfl⟩
        obtain ⟨w5, hw5⟩ : ∃ w5, wr.alloc (.cells #[.int .i64 x, .int .i64 y, .int .u64 (wd c 0), .int .u64 (wd c 1), .int .u64 (wd c 2), .int .u64 (wd c 3)] 78) = w5 := ⟨_, rfl⟩
        have hb5 : Below wr.heap.size wr w5 := by rw [← hw5]; exact new_one wr _
        have hx5 : w5.heap[g]? = some (.cells #[.int .i64 x, .int .i64 y, .int .u64 (wd c 0), .int .u64 (wd c 1), .int .u64 (wd c 2), .int .u64 (wd c 3)] 78 (0, 0)) := by rw [← hw5, ← hg]; exact heap_alloc_new wr _
        have hs5 : w5.heap.size = g + 1 := by rw [← hw5]; simp [hg]
        have hK5 := HK.out.next hb5
        have HOW := Lib.hid (show ∀ es cn v, w5.heap[b2]? = some (.map es cn) → IsAt es x v → v.ownBlock ≠ some g from by
          intro es cn v h1 h2 h3
          obtain ⟨es0, cn0, q1, q2, q3, _⟩ := HK.out.g2.map
          have q8 := (hb5.block _ (lt_of_block q1)).trans q1
          rw [h1] at q8; cases q8
          obtain ⟨v2, q5, q6⟩ := q3 x
          obtain rfl := IsAt.same q2 q5 h2
          obtain ⟨cs, q7⟩ := row_block q6 h3
          have := lt_of_block q7; omega)
        rw [hw5, hg]
        clear hw5 hb5 a0 a1 a2 a3 a4 a5
        obtain ⟨es, cn, hes, hkd, hro, hdi⟩ := hK5.g2.map
        obtain ⟨v, hv, hrv⟩ := hro x
        have HOWN := Lib.hid (HOW.out es cn v hes hv)
        clear HOW
        have HV := Lib.hid hv
        have HES := Lib.hid hes
        have HLK := Lib.hid (fun (W : World) hW => look_fix (t := 69) (e := 25) (w := W) (cn := cn) (b := b2) Tryd.underlying69 zero_arcs hkd hv hW)
        have HRV := Lib.hid (row_keep (w' := w5.drew.alloc (.cells #[.int .i64 x, .int .i64 y, .int .u64 (wd c 0), .int .u64 (wd c 1), .int .u64 (wd c 2), .int .u64 (wd c 3)] 78)) hrv fun g2 cs _ h1 => (heap_alloc_old w5.drew _ (lt_of_block h1)).trans h1)
        have f0 : w5.drew.cell? ⟨bw, 2, none⟩ = some (.map (some b2)) := (cell_of_row w5 _ 2 _ _ _ hK5.var).trans rfl
        have f1 : w5.drew.cell? ⟨g, 0, none⟩ = some (.int .i64 x) := (cell_of_row w5 _ 0 _ _ _ hx5).trans rfl
        have f2 : w5.drew.cell? ⟨g, 1, none⟩ = some (.int .i64 y) := (cell_of_row w5 _ 1 _ _ _ hx5).trans rfl
        have f3 : w5.drew.cell? ⟨g, 2, none⟩ = some (.int .u64 (wd c 0)) := (cell_of_row w5 _ 2 _ _ _ hx5).trans rfl
        have f4 : w5.drew.cell? ⟨g, 3, none⟩ = some (.int .u64 (wd c 1)) := (cell_of_row w5 _ 3 _ _ _ hx5).trans rfl
        have f5 : w5.drew.cell? ⟨g, 4, none⟩ = some (.int .u64 (wd c 2)) := (cell_of_row w5 _ 4 _ _ _ hx5).trans rfl
        have f6 : w5.drew.cell? ⟨g, 5, none⟩ = some (.int .u64 (wd c 3)) := (cell_of_row w5 _ 5 _ _ _ hx5).trans rfl
        have HK5 := Lib.hid hK5
        have HX5 := Lib.hid hx5
        have hbig := hK5.big
        have hfar := Lib.hid hK5.far
        obtain ⟨n0, hn0⟩ : ∃ n0, (arcF (A.take k) x).length = n0 := ⟨_, rfl⟩
        rw [hn0] at hfl HRV
        have fm : w5.drew.heap[b2]? = some (.map es cn) := hes
        clear hv hrv hro hdi hkd hes hx5 hK5
        refine region_goes 12 13 rfl (fun W => W.cell? ⟨bw, 2, none⟩ = some (.map (some b2)) ∧ W.cell? ⟨g, 0, none⟩ = some (.int .i64 x) ∧ W.cell? ⟨g, 1, none⟩ = some (.int .i64 y) ∧ W.cell? ⟨g, 2, none⟩ = some (.int .u64 (wd c 0)) ∧ W.cell? ⟨g, 3, none⟩ = some (.int .u64 (wd c 1)) ∧ W.cell? ⟨g, 4, none⟩ = some (.int .u64 (wd c 2)) ∧ W.cell? ⟨g, 5, none⟩ = some (.int .u64 (wd c 3)) ∧ W.heap[b2]? = some (.map es cn)) mixed ⟨f0, f1, f2, f3, f4, f5, f6, fm⟩ (fun hHeld => ?_)
        clear fm f0 f1 f2 f3 f4 f5 f6
        refine goes_take (i := 0) (v := ?gv12) rfl (by kernel_rfl) (by kernel_rfl) (by kernel_rfl) (by kernel_rfl) (fun _ _ _ h => h) (Or.inl ⟨by rfl, ?gy12⟩) (by assumption) ?gr12
        case gy12 => (intro W9 hW9; obtain ⟨k0, k1, k2, k3, k4, k5, k6, km⟩ := hW9; first | (go_simp; done) | (go_simp; with_reducible rfl))
        simp only [Act.put, List.getElem_toArray, List.getElem_cons_succ, List.getElem_cons_zero, List.setIfInBounds_toArray, List.set_cons_zero, List.set_cons_succ]
        refine goes_take (i := 1) (v := ?gv13) rfl (by kernel_rfl) (by kernel_rfl) (by kernel_rfl) (by kernel_rfl) (fun _ _ _ h => h) (Or.inl ⟨by rfl, ?gy13⟩) (by assumption) ?gr13
        case gy13 => (intro W9 hW9; obtain ⟨k0, k1, k2, k3, k4, k5, k6, km⟩ := hW9; first | (go_simp; done) | (go_simp; with_reducible rfl))
        simp only [Act.put, List.getElem_toArray, List.getElem_cons_succ, List.getElem_cons_zero, List.setIfInBounds_toArray, List.set_cons_zero, List.set_cons_succ]
        refine goes_take (i := 2) (v := ?gv14) rfl (by kernel_rfl) (by kernel_rfl) (by kernel_rfl) (by kernel_rfl) (fun _ _ _ h => h) (Or.inl ⟨by rfl, ?gy14⟩) (by assumption) ?gr14
        case gy14 => (intro W9 hW9; obtain ⟨k0, k1, k2, k3, k4, k5, k6, km⟩ := hW9; first | (go_simp; done) | (go_simp; with_reducible rfl))
        simp only [Act.put, List.getElem_toArray, List.getElem_cons_succ, List.getElem_cons_zero, List.setIfInBounds_toArray, List.set_cons_zero, List.set_cons_succ]
        refine goes_take (i := 3) (v := ?gv15) rfl (by kernel_rfl) (by kernel_rfl) (by kernel_rfl) (by kernel_rfl) (fun _ _ _ h => h) (Or.inl ⟨by rfl, ?gy15⟩) (by assumption) ?gr15
        case gy15 => (intro W9 hW9; obtain ⟨k0, k1, k2, k3, k4, k5, k6, km⟩ := hW9; first | (go_simp; done) | (go_simp; with_reducible rfl))
        simp only [Act.put, List.getElem_toArray, List.getElem_cons_succ, List.getElem_cons_zero, List.setIfInBounds_toArray, List.set_cons_zero, List.set_cons_succ]
        refine goes_take (i := 4) (v := ?gv16) rfl (by kernel_rfl) (by kernel_rfl) (by kernel_rfl) (by kernel_rfl) (fun _ _ _ h => h) (Or.inl ⟨by rfl, ?gy16⟩) (by assumption) ?gr16
        case gy16 => (intro W9 hW9; obtain ⟨k0, k1, k2, k3, k4, k5, k6, km⟩ := hW9; first | (go_simp; done) | (go_simp; with_reducible rfl))
        simp only [Act.put, List.getElem_toArray, List.getElem_cons_succ, List.getElem_cons_zero, List.setIfInBounds_toArray, List.set_cons_zero, List.set_cons_succ]
        refine goes_take (i := 5) (v := ?gv17) rfl (by kernel_rfl) (by kernel_rfl) (by kernel_rfl) (by kernel_rfl) (fun _ _ _ h => h) (Or.inl ⟨by rfl, ?gy17⟩) (by assumption) ?gr17
        case gy17 => (intro W9 hW9; obtain ⟨k0, k1, k2, k3, k4, k5, k6, km⟩ := hW9; first | (go_simp; done) | (go_simp; with_reducible rfl))
        simp only [Act.put, List.getElem_toArray, List.getElem_cons_succ, List.getElem_cons_zero, List.setIfInBounds_toArray, List.set_cons_zero, List.set_cons_succ]
        refine goes_take (i := 6) (v := ?gv18) rfl (by kernel_rfl) (by kernel_rfl) (by kernel_rfl) (by kernel_rfl) (fun _ _ _ h => h) (Or.inl ⟨by rfl, ?gy18⟩) (by assumption) ?gr18
        case gy18 => (intro W9 hW9; obtain ⟨k0, k1, k2, k3, k4, k5, k6, km⟩ := hW9; first | (go_simp; done) | (go_simp; with_reducible rfl))
        simp only [Act.put, List.getElem_toArray, List.getElem_cons_succ, List.getElem_cons_zero, List.setIfInBounds_toArray, List.set_cons_zero, List.set_cons_succ]
        refine goes_take (i := 7) (v := ?gv19) rfl (by kernel_rfl) (by kernel_rfl) (by kernel_rfl) (by kernel_rfl) (fun _ _ _ h => h) (Or.inl ⟨by rfl, ?gy19⟩) (by assumption) ?gr19
        case gy19 => (intro W9 hW9; obtain ⟨k0, k1, k2, k3, k4, k5, k6, km⟩ := hW9; first | (go_simp; done) | (go_simp; with_reducible rfl))
        simp only [Act.put, List.getElem_toArray, List.getElem_cons_succ, List.getElem_cons_zero, List.setIfInBounds_toArray, List.set_cons_zero, List.set_cons_succ]
        refine goes_take (i := 8) (v := v) rfl (by kernel_rfl) (by kernel_rfl) (by kernel_rfl) (by kernel_rfl) (fun _ _ _ h => h) (Or.inl ⟨by rfl, ?gy20⟩) (by assumption) ?gr20
        case gy20 => (intro W9 hW9; obtain ⟨k0, k1, k2, k3, k4, k5, k6, km⟩ := hW9; have hlk := HLK.out W9 km; go_simp)
        simp only [Act.put, List.getElem_toArray, List.getElem_cons_succ, List.getElem_cons_zero, List.setIfInBounds_toArray, List.set_cons_zero, List.set_cons_succ]
        refine goes_take (i := 9) (v := ?gv21) rfl (by kernel_rfl) (by kernel_rfl) (by kernel_rfl) (by kernel_rfl) (fun _ _ _ h => h) (Or.inl ⟨by rfl, ?gy21⟩) (by assumption) ?gr21
        case gy21 => (intro W9 hW9; obtain ⟨k0, k1, k2, k3, k4, k5, k6, km⟩ := hW9; first | (go_simp; done) | (go_simp; with_reducible rfl))
        simp only [Act.put, List.getElem_toArray, List.getElem_cons_succ, List.getElem_cons_zero, List.setIfInBounds_toArray, List.set_cons_zero, List.set_cons_succ]
        refine goes_one (i := 10) (by kernel_rfl) rfl (fun K9 hK9 => ?_)
        go_simp
        have hba := new_one w5.drew (.cells #[.int .i64 x, .int .i64 y, .int .u64 (wd c 0), .int .u64 (wd c 1), .int .u64 (wd c 2), .int .u64 (wd c 3)] 78)
        obtain ⟨k0, k1, k2, k3, k4, k5, k6, km⟩ := hHeld
        refine hK9.out _ _ (fun _ => ⟨cell_below hba k0, cell_below hba k1, cell_below hba k2, cell_below hba k3, cell_below hba k4, cell_below hba k5, cell_below hba k6, (hba.block _ (lt_of_block km)).trans km⟩) (fun hHeld => ?_)
        have hHeld := hHeld (by decide)
        clear hK9 K9 k0 k1 k2 k3 k4 k5 k6 km
        refine goes_one (i := 11) (by kernel_rfl) rfl (fun K9 hK9 => ?_)
        rw [if_pos (by rfl)]
        refine wp_append_lies _ _ _ 25 rfl N 78 i1 (.agg #[.int .i64 0, .int .i64 0, .int .u64 0, .int .u64 0, .int .u64 0, .int .u64 0]) 6 48 Tryd.underlying25 HJ.out.1 HJ.out.2.1 HJ.out.2.2.1 HJ.out.2.2.2 rfl (by decide) v n0 (arcF (A.take k) x).flatten rfl HRV.out ⟨g + 1, 0, none⟩ 1 1 [.int .i64 x, .int .i64 y, .int .u64 (wd c 0), .int .u64 (wd c 1), .int .u64 (wd c 2), .int .u64 (wd c 3)] rfl rfl (news_in (cs := #[.int .i64 x, .int .i64 y, .int .u64 (wd c 0), .int .u64 (wd c 1), .int .u64 (wd c 2), .int .u64 (wd c 3)]) (by have := heap_alloc_new w5.drew (.cells #[.int .i64 x, .int .i64 y, .int .u64 (wd c 0), .int .u64 (wd c 1), .int .u64 (wd c 2), .int .u64 (wd c 3)] 78); rw [show w5.drew.heap.size = g + 1 from hs5] at this; exact this)) (by simp [Value.oneCell']) (by omega) (by unfold maxLen; omega) (by omega) (by show N ≤ (w5.alloc _).heap.size; simp only [World.size_alloc]; omega) (g + 2) (by show (w5.alloc _).heap.size = g + 2; simp only [World.size_alloc]; omega) ?_
        intro g9 cap2 w8 h2 h3 h4 h5
        have h7 : Below w5.heap.size w5 (w5.drew.alloc (.cells #[.int .i64 x, .int .i64 y, .int .u64 (wd c 0), .int .u64 (wd c 1), .int .u64 (wd c 2), .int .u64 (wd c 3)] 78)) := (Below.refl _ w5).drew.trans (new_one w5.drew _)
        obtain ⟨h8, w9, hrun, hfin⟩ := HK5.out.push_a (x := [.int .i64 x, .int .i64 y, .int .u64 (wd c 0), .int .u64 (wd c 1), .int .u64 (wd c 2), .int .u64 (wd c 3)]) HES.out HV.out hn0 h7 h3 h2 (h4.imp_right fun h => by omega)
        have j0 : w8.cell? ⟨bw, 2, none⟩ = some (.map (some b2)) := (cell_of_row w8 bw 2 _ _ _ (h8 bw _ HK5.out.var (fun cs e => by cases e))).trans rfl
        have hgx : w8.heap[g]? = some (.cells #[.int .i64 x, .int .i64 y, .int .u64 (wd c 0), .int .u64 (wd c 1), .int .u64 (wd c 2), .int .u64 (wd c 3)] 78 (0, 0)) := by
          rw [h3.block g (by show g < (w5.alloc _).heap.size; simp only [World.size_alloc]; omega) (fun e => HOWN.out e.symm)]
          exact (h7.block g (by omega)).trans HX5.out
        have j1 : w8.cell? ⟨g, 0, none⟩ = some (.int .i64 x) := (cell_of_row w8 g 0 _ _ _ hgx).trans rfl
        have j2 : w8.cell? ⟨g, 1, none⟩ = some (.int .i64 y) := (cell_of_row w8 g 1 _ _ _ hgx).trans rfl
        have j3 : w8.cell? ⟨g, 2, none⟩ = some (.int .u64 (wd c 0)) := (cell_of_row w8 g 2 _ _ _ hgx).trans rfl
        have j4 : w8.cell? ⟨g, 3, none⟩ = some (.int .u64 (wd c 1)) := (cell_of_row w8 g 3 _ _ _ hgx).trans rfl
        have j5 : w8.cell? ⟨g, 4, none⟩ = some (.int .u64 (wd c 2)) := (cell_of_row w8 g 4 _ _ _ hgx).trans rfl
        have j6 : w8.cell? ⟨g, 5, none⟩ = some (.int .u64 (wd c 3)) := (cell_of_row w8 g 5 _ _ _ hgx).trans rfl
        refine hK9.out _ _ (fun _ => ⟨j0, j1, j2, j3, j4, j5, j6, h8 b2 _ HES.out (fun cs e => by cases e)⟩) (fun hHeld => ?_)
        have hHeld := hHeld (by decide)
        have HFIN := Lib.hid hfin
        clear hK9 K9 h2 h3 h4 h5 h7 h8 hfin j0 j1 j2 j3 j4 j5 j6 hgx
        refine goes_one (i := 12) (by kernel_rfl) rfl (fun K9 hK9 => ?_)
        go_simp
        refine hK9.out _ _ (fun h => absurd rfl h) (fun _ => ?_)
        clear hK9 K9 hHeld
        refine goes_done (by kernel_rfl) ?_ _
        go_wp2
        refine ⟨⟨k + 1, rfl, hlt, Lib.hid ?_⟩, by simp only [intOf]; omega⟩
        rw [HFT.out]; exact HFIN.out
      · have hdd : decide ((k : Int) < A.length) = false := by simpa using hlt
        obtain rfl : k = A.length := by omega
        rw [List.take_length] at HK
        have hbig := HK.out.big
        have hfar := HK.out.far
        have e0 : wr.cell? ⟨bw, 0, none⟩ = some (.int .i64 n) := (cell_of_row wr bw 0 _ _ _ HK.out.var).trans rfl
        have e1 : wr.cell? ⟨bw, 1, none⟩ = some (.map (some b1)) := (cell_of_row wr bw 1 _ _ _ HK.out.var).trans rfl
        have e2 : wr.cell? ⟨bw, 2, none⟩ = some (.map (some b2)) := (cell_of_row wr bw 2 _ _ _ HK.out.var).trans rfl
        have r0 : wr.cell? ⟨N + 1, 0, none⟩ = some (.int .i64 0) := (cell_of_row wr (N + 1) 0 _ _ _ HK.out.res).trans rfl
        have r1 : wr.cell? ⟨N + 1, 1, none⟩ = some (.map none) := (cell_of_row wr (N + 1) 1 _ _ _ HK.out.res).trans rfl
        have r2 : wr.cell? ⟨N + 1, 2, none⟩ = some (.map none) := (cell_of_row wr (N + 1) 2 _ _ _ HK.out.res).trans rfl
        have q0 : wr.frozen? ⟨N + 1, 0, none⟩ = false := free_cells HK.out.res
        have q1 : wr.frozen? ⟨N + 1, 1, none⟩ = false := free_cells HK.out.res
        have q2 : wr.frozen? ⟨N + 1, 2, none⟩ = false := free_cells HK.out.res
        have hbl : Below N w (((wr.setCell ⟨N + 1, 0, none⟩ (.int .i64 n)).setCell ⟨N + 1, 1, none⟩ (.map (some b1))).setCell ⟨N + 1, 2, none⟩ (.map (some b2))) := ((HK.out.below.setCell (p := ⟨N + 1, 0, none⟩) (by show N ≤ N + 1; omega) _).setCell (p := ⟨N + 1, 1, none⟩) (by show N ≤ N + 1; omega) _).setCell (p := ⟨N + 1, 2, none⟩) (by show N ≤ N + 1; omega) _
        have hs : ∀ (j : Nat) (o : Obj), wr.heap[j]? = some o → j ≠ N + 1 → (((wr.setCell ⟨N + 1, 0, none⟩ (.int .i64 n)).setCell ⟨N + 1, 1, none⟩ (.map (some b1))).setCell ⟨N + 1, 2, none⟩ (.map (some b2))).heap[j]? = some o := fun j o h1 h2 => (Below.heap_setCell _ _ _ _ h2).trans ((Below.heap_setCell _ _ _ _ h2).trans ((Below.heap_setCell _ _ _ _ h2).trans h1))
        have hne : ∀ (j : Nat) (cs : Array Value) (t : TypeId), wr.heap[j]? = some (.cells cs t (0, 0)) → t ≠ 71 → j ≠ N + 1 := fun j cs t h1 h2 e => by
          subst e; rw [HK.out.res] at h1; cases h1; exact h2 rfl
        have hwk := Lib.hid (show Walker (((wr.setCell ⟨N + 1, 0, none⟩ (.int .i64 n)).setCell ⟨N + 1, 1, none⟩ (.map (some b1))).setCell ⟨N + 1, 2, none⟩ (.map (some b2))) b1 b2 E A from ⟨⟨N, HK.out.g1.keep (fun es c h1 => hs _ _ h1 (by omega)) (fun g cs h1 _ => hs _ _ h1 (hne _ _ _ h1 (by decide)))⟩, ⟨N, HK.out.g2.keep (fun es c h1 => hs _ _ h1 (by omega)) (fun g cs h1 _ => hs _ _ h1 (hne _ _ _ h1 (by decide)))⟩⟩)
        have hblh := Lib.hid hbl
        clear hs hne hbl
        go_wp2
        exact bodyPost_ret (v := .agg #[.int .i64 n, .map (some b1), .map (some b2)]) (by simp [results, Tryd.results28, go_sem, *]) rfl ⟨b1, b2, rfl, hwk, hblh⟩
end Go.Proofs.YtpfhhdiipedklaaDoor
