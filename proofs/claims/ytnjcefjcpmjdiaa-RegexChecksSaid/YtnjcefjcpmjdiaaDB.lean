/- Contract of homographref02.Make. -/
import Derived.Test.YtnjcefjcpmjdiaaD8
import Derived.Test.YtnjcefjcpmjdiaaDA
import Derived.Test.YtnjcefjcpmjdiaaR0
set_option maxRecDepth 20000
namespace Go.Proofs.Ytnjcefjcpmjdiaa
open Go.RowKit

theorem okL_append (a b : List Pat) : okL (a ++ b) = (okL a && okL b) := by rw [okL_eq, okL_eq, okL_eq, List.all_append]
theorem split_two {α : Type} (L : List α) (h : 1 < L.length) : ∃ L0 x y, L = L0 ++ [x, y] := by
  rcases List.eq_nil_or_concat L with rfl | ⟨L1, y, rfl⟩
  · simp at h
  · rw [List.concat_eq_append] at h ⊢
    rcases List.eq_nil_or_concat L1 with rfl | ⟨L0, x, rfl⟩
    · simp at h
    · exact ⟨L0, x, y, by simp [List.concat_eq_append]⟩
theorem split_one {α : Type} (L : List α) (h : 0 < L.length) : ∃ L0 x, L = L0 ++ [x] := by
  rcases List.eq_nil_or_concat L with rfl | ⟨L1, y, rfl⟩
  · simp at h
  · exact ⟨L1, y, by rw [List.concat_eq_append]⟩
/-- The two last nodes become one. -/
theorem two_size (L0 : List (Pat × Value)) (x y : Pat) (xs ys ks : Value) (op : Int) (k : Nat) (h : Pat.sizes ((L0 ++ [(x, xs), (y, ys)]).map Prod.fst) ≤ k) : Pat.sizes ((L0 ++ [(Pat.mk op 0 0 0 [x, y], ks)]).map Prod.fst) ≤ k + 1 := by
  simp only [List.map_append, List.map_cons, List.map_nil, sizes_append, Pat.sizes, Pat.size] at h ⊢; omega
theorem two_ok (L0 : List (Pat × Value)) (x y : Pat) (xs ys ks : Value) (op : Int) (hop : (op != 3 && op != 5) = true) (h : okL ((L0 ++ [(x, xs), (y, ys)]).map Prod.fst) = true) : okL ((L0 ++ [(Pat.mk op 0 0 0 [x, y], ks)]).map Prod.fst) = true := by
  simp only [List.map_append, List.map_cons, List.map_nil, okL_append, okL, Pat.ok, hop, Bool.true_or, Bool.true_and, Bool.and_true] at h ⊢; exact h
theorem one_size (L0 : List (Pat × Value)) (x : Pat) (xs ks : Value) (op lo hi : Int) (k : Nat) (h : Pat.sizes ((L0 ++ [(x, xs)]).map Prod.fst) ≤ k) : Pat.sizes ((L0 ++ [(Pat.mk op 0 lo hi [x], ks)]).map Prod.fst) ≤ k + 1 := by
  simp only [List.map_append, List.map_cons, List.map_nil, sizes_append, Pat.sizes, Pat.size] at h ⊢; omega
theorem one_ok (L0 : List (Pat × Value)) (x : Pat) (xs ks : Value) (op lo hi : Int) (h : okL ((L0 ++ [(x, xs)]).map Prod.fst) = true) : okL ((L0 ++ [(Pat.mk op 0 lo hi [x], ks)]).map Prod.fst) = true := by
  simp only [List.map_append, List.map_cons, List.map_nil, okL_append, okL, Pat.ok, List.length_cons, List.length_nil, Bool.and_true] at h ⊢; simpa using h
theorem new_size (L : List (Pat × Value)) (s : BitVec 256) (ks : Value) (k : Nat) (h : Pat.sizes (L.map Prod.fst) ≤ k) : Pat.sizes ((L ++ [(Pat.mk 0 s 0 0 [], ks)]).map Prod.fst) ≤ k + 1 := by
  simp only [List.map_append, List.map_cons, List.map_nil, sizes_append, Pat.sizes, Pat.size] at h ⊢; omega
theorem new_ok (L : List (Pat × Value)) (s : BitVec 256) (ks : Value) (h : okL (L.map Prod.fst) = true) : okL ((L ++ [(Pat.mk 0 s 0 0 [], ks)]).map Prod.fst) = true := by
  simp only [List.map_append, List.map_cons, List.map_nil, okL_append, h, Bool.true_and]; rfl

/-- A node is stored in the place of the last ones: the row, cut. -/
theorem NRow.cut1 {w : World} {base g cap n : Nat} {L0 : List (Pat × Value)} {x : Pat × Value} (h : NRow w base (.slice (some ⟨g, 0, none⟩) n cap) (L0 ++ [x])) : L0.length + 1 = n := by
  rcases h.1.2 with ⟨e, _⟩ | ⟨g', cap', cur, e, _⟩
  · cases e
  · cases e; simp
theorem set_mid {α : Type} (L0 : List α) (x y z : α) (m : Nat) (hm : L0.length = m) : (L0 ++ [x, y]).set m z = (L0 ++ [z]) ++ [y] := by subst hm; simp
theorem set_last {α : Type} (L0 : List α) (x z : α) (m : Nat) (hm : L0.length = m) : (L0 ++ [x]).set m z = L0 ++ [z] := by subst hm; simp
set_option maxHeartbeats 400000 in
theorem rrep_m (p : Pat) (ks : Value) (lo hi : Int) (w : World) (base : Nat) (x : Option Nat) (hk : Kids (mask w base x) p.kids ks) (hb : base ≤ w.heap.size) (hx : ∀ g, x = some g → g < w.heap.size) :
    Calls Try.prog 22 #[(.agg #[.int .i64 p.op, .int .u64 (wd p.set 0), .int .u64 (wd p.set 1), .int .u64 (wd p.set 2), .int .u64 (wd p.set 3), .int .i64 p.lo, .int .i64 p.hi, ks]), .int .i64 lo, .int .i64 hi] w fun e w' => ∃ n, e = .returned (.agg #[.int .i64 (Pat.mk 3 0 lo hi [p]).op, .int .u64 (wd (Pat.mk 3 0 lo hi [p]).set 0), .int .u64 (wd (Pat.mk 3 0 lo hi [p]).set 1), .int .u64 (wd (Pat.mk 3 0 lo hi [p]).set 2), .int .u64 (wd (Pat.mk 3 0 lo hi [p]).set 3), .int .i64 (Pat.mk 3 0 lo hi [p]).lo, .int .i64 (Pat.mk 3 0 lo hi [p]).hi, .slice (some ⟨n, 0, none⟩) 1 1]) ∧ Kids (mask w' base x) [p] (.slice (some ⟨n, 0, none⟩) 1 1) ∧ Below w.heap.size w w' := by
  have hk0 := hk
  obtain ⟨a, cap, rfl⟩ := hk.len
  go_enter Try.func22, Try.ntmps22
  go_wp2
  refine bodyPost_ret (v := (.agg #[.int .i64 (Pat.mk 3 0 lo hi [p]).op, .int .u64 (wd (Pat.mk 3 0 lo hi [p]).set 0), .int .u64 (wd (Pat.mk 3 0 lo hi [p]).set 1), .int .u64 (wd (Pat.mk 3 0 lo hi [p]).set 2), .int .u64 (wd (Pat.mk 3 0 lo hi [p]).set 3), .int .i64 (Pat.mk 3 0 lo hi [p]).lo, .int .i64 (Pat.mk 3 0 lo hi [p]).hi, .slice (some ⟨w.heap.size + 1 + 1, 0, none⟩) 1 1])) (by simp [results, Try.results22, go_sem, Pat.op, Pat.set, Pat.lo, Pat.hi, wd_none]) rfl ⟨_, rfl, ?_, ?_⟩
  · exact (hk0.masked_below (below2 _ _ _)).oneM (by simp) (by omega) (fun e => by have := hx _ e.symm; omega)
  · exact below3 _ _ _ _
theorem below_1 (w : World) (o : Obj) : Below w.heap.size w (w.alloc o) := (Below.refl _ _).alloc (Nat.le_refl _) _
/-- What a round of Make hands on. -/
def MkRel (N : Nat) (w : World) (k : Nat) (v : Value) (w' : World) : Prop := ∃ L : List (Pat × Value), k ≤ N ∧ Pat.sizes (L.map Prod.fst) ≤ k ∧ okL (L.map Prod.fst) = true ∧ NRow w' (w.heap.size + 1) v L ∧ Box w' w.heap.size z8 ∧ Below w.heap.size w w'
def loopOf : Code → Option Code
  | .loop c => some c
  | .seq a b => match loopOf a with
    | some c => some c
    | none => loopOf b
  | .block _ c => loopOf c
  | .scope c => loopOf c
  | .cond _ a b => match loopOf a with
    | some c => some c
    | none => loopOf b
  | _ => none
noncomputable def mkBody : Code := ((Try.f9.body.bind loopOf).getD .skip)
theorem new_rel {w w1 w7 : World} {N k : Nat} {L : List (Pat × Value)} {v v' : Value} {s : BitVec 256} {ks : Value}
    (hlt : k < N) (hr3 : NRow w1 (w.heap.size + 1) v L) (hown : w7.ownsRow (w.heap.size + 1) 28 8 v' (L.length + 1) (flatN L ++ [.int .i64 (Pat.mk 0 s 0 0 []).op, .int .u64 (wd (Pat.mk 0 s 0 0 []).set 0), .int .u64 (wd (Pat.mk 0 s 0 0 []).set 1), .int .u64 (wd (Pat.mk 0 s 0 0 []).set 2), .int .u64 (wd (Pat.mk 0 s 0 0 []).set 3), .int .i64 (Pat.mk 0 s 0 0 []).lo, .int .i64 (Pat.mk 0 s 0 0 []).hi, ks])) (hg : w1.grownBy w7 v.ownBlock) (hat : v'.ownBlock = v.ownBlock ∨ v'.ownBlock = some w1.heap.size)
    (hp : Kids (mask w1 (w.heap.size + 1) v.ownBlock) [] ks) (hz : Box w1 w.heap.size z8) (hb : Below w.heap.size w w1) (hsz : Pat.sizes (L.map Prod.fst) ≤ k) (hok : okL (L.map Prod.fst) = true) : MkRel N w (k + 1) v' w7 :=
  ⟨_, by omega, new_size _ _ _ _ hsz, new_ok _ _ _ hok, hr3.snoc (p := Pat.mk 0 s 0 0 []) hown hg hat hp, hz.grown hg (own_not hr3.1 (by omega)), below_grown hb hr3.1 hg (by omega)⟩
theorem two_end {w w6 : World} {N k m n m1 g cap : Nat} {L0 : List (Pat × Value)} {x1 y1 : Pat} {x2 y2 ks : Value} {op : Int}
    (hm : L0.length = m) (hn : n = m + 2) (hm1 : m1 = m + 1) (hlt : k < N) (hrow : NRow w6 (w.heap.size + 1) (.slice (some ⟨g, 0, none⟩) n cap) (L0 ++ [(x1, x2), (y1, y2)])) (hz : Box w6 w.heap.size z8) (hbw : Below w.heap.size w w6)
    (hK : Kids (mask w6 (w.heap.size + 1) (some g)) [x1, y1] ks) (hsz : Pat.sizes ((L0 ++ [(x1, x2), (y1, y2)]).map Prod.fst) ≤ k) (hok : okL ((L0 ++ [(x1, x2), (y1, y2)]).map Prod.fst) = true) (hop : (op != 3 && op != 5) = true) :
    MkRel N w (k + 1) (.slice (some ⟨g, 0, none⟩) m1 cap) ((((((((w6.setCell ⟨g, m * 8, none⟩ (.int .i64 (Pat.mk op 0 0 0 [x1, y1]).op)).setCell ⟨g, m * 8 + 1, none⟩ (.int .u64 (wd (Pat.mk op 0 0 0 [x1, y1]).set 0))).setCell ⟨g, m * 8 + 2, none⟩ (.int .u64 (wd (Pat.mk op 0 0 0 [x1, y1]).set 1))).setCell ⟨g, m * 8 + 3, none⟩ (.int .u64 (wd (Pat.mk op 0 0 0 [x1, y1]).set 2))).setCell ⟨g, m * 8 + 4, none⟩ (.int .u64 (wd (Pat.mk op 0 0 0 [x1, y1]).set 3))).setCell ⟨g, m * 8 + 5, none⟩ (.int .i64 (Pat.mk op 0 0 0 [x1, y1]).lo)).setCell ⟨g, m * 8 + 6, none⟩ (.int .i64 (Pat.mk op 0 0 0 [x1, y1]).hi)).setCell ⟨g, m * 8 + 7, none⟩ ks) := by
  obtain ⟨h1, h2⟩ := hrow.set (i := m) (p := Pat.mk op 0 0 0 [x1, y1]) (ks := ks) (by simp [hm, hn]) (by simp [hm]) hK
  rw [set_mid _ _ _ _ _ hm] at h1
  rw [hn] at h1
  have h3 := h1.pop (by simp [hm])
  exact ⟨_, by omega, two_size _ _ _ _ _ _ _ _ hsz, two_ok _ _ _ _ _ _ _ hop hok, hm1 ▸ h3, hz.grown h2 (fun e => by have h9 : g = w.heap.size := Option.some.inj e; have := (hrow.1.lt g rfl).1; omega), below_grown hbw hrow.1 h2 (by omega)⟩
theorem one_end {w w6 : World} {N k m n g cap : Nat} {L0 : List (Pat × Value)} {x1 : Pat} {x2 ks : Value} {op lo hi : Int}
    (hm : L0.length = m) (hn : n = m + 1) (hlt : k < N) (hrow : NRow w6 (w.heap.size + 1) (.slice (some ⟨g, 0, none⟩) n cap) (L0 ++ [(x1, x2)])) (hz : Box w6 w.heap.size z8) (hbw : Below w.heap.size w w6)
    (hK : Kids (mask w6 (w.heap.size + 1) (some g)) [x1] ks) (hsz : Pat.sizes ((L0 ++ [(x1, x2)]).map Prod.fst) ≤ k) (hok : okL ((L0 ++ [(x1, x2)]).map Prod.fst) = true) :
    MkRel N w (k + 1) (.slice (some ⟨g, 0, none⟩) n cap) ((((((((w6.setCell ⟨g, m * 8, none⟩ (.int .i64 (Pat.mk op 0 lo hi [x1]).op)).setCell ⟨g, m * 8 + 1, none⟩ (.int .u64 (wd (Pat.mk op 0 lo hi [x1]).set 0))).setCell ⟨g, m * 8 + 2, none⟩ (.int .u64 (wd (Pat.mk op 0 lo hi [x1]).set 1))).setCell ⟨g, m * 8 + 3, none⟩ (.int .u64 (wd (Pat.mk op 0 lo hi [x1]).set 2))).setCell ⟨g, m * 8 + 4, none⟩ (.int .u64 (wd (Pat.mk op 0 lo hi [x1]).set 3))).setCell ⟨g, m * 8 + 5, none⟩ (.int .i64 (Pat.mk op 0 lo hi [x1]).lo)).setCell ⟨g, m * 8 + 6, none⟩ (.int .i64 (Pat.mk op 0 lo hi [x1]).hi)).setCell ⟨g, m * 8 + 7, none⟩ ks) := by
  obtain ⟨h1, h2⟩ := hrow.set (i := m) (p := (Pat.mk op 0 lo hi [x1])) (ks := ks) (by simp [hm, hn]) (by simp [hm]) hK
  rw [set_last _ _ _ _ hm] at h1
  exact ⟨_, by omega, one_size _ _ _ _ _ _ _ _ hsz, one_ok _ _ _ _ _ _ _ hok, h1, hz.grown h2 (fun e => by have h9 : g = w.heap.size := Option.some.inj e; have := (hrow.1.lt g rfl).1; omega), below_grown hbw hrow.1 h2 (by omega)⟩
end Go.Proofs.Ytnjcefjcpmjdiaa
