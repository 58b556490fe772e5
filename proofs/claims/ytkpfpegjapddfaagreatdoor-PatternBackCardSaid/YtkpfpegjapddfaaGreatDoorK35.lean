/- Texts that a proof rests on: Contracts of homographref02: Lit, Back. | Contract of homographref02.Make. | How long a shown pattern may be. -/
import Derived.Test.YtkpfpegjapddfaaGreatDoorK17
import Derived.Test.YtkpfpegjapddfaaGreatDoorK25
import Derived.Test.YtkpfpegjapddfaaGreatDoorK09
import Derived.Test.YtkpfpegjapddfaaGreatDoorK36
set_option maxRecDepth 20000
namespace Go.Proofs.YtkpfpegjapddfaaGreatDoor
open Go.RowKit

/-- The pattern of one byte. -/
def byteP (c : UInt8) : Pat := .mk 0 (put 0 c.toNat) 0 0 []
def litP (s : ByteArray) : Pat := .mk 1 0 0 0 (s.data.toList.map byteP)
theorem rwith_zero (b : Nat) (hb : b < 256) (w : World) :
    Calls Tryz.prog 17 #[.agg #[.int .u64 0, .int .u64 0, .int .u64 0, .int .u64 0], .int .u8 b] w fun e w' => e = .returned (.agg #[.int .u64 (wd (put 0 b) 0), .int .u64 (wd (put 0 b) 1), .int .u64 (wd (put 0 b) 2), .int .u64 (wd (put 0 b) 3)]) ∧ Below w.heap.size w w' := by
  have := rwith_any 0 b hb w
  rw [wd_zero, wd_zero, wd_zero, wd_zero] at this
  exact this
theorem back_kids_len (p : Pat) : p.back.kids.length = p.kids.length := by
  rw [back_eq, kids_mk]; cases p.op == 1 <;> simp
theorem back_take_no (p : Pat) (h : (p.op == 1) = false) (k : Nat) (hk : k < p.kids.length) : p.back.kids.take (k + 1) = p.back.kids.take k ++ [p.kids[k].back] := by
  have hl := back_kids_len p
  rw [List.take_succ_eq_append_getElem (by omega)]
  congr 2
  simp only [back_eq p, kids_mk, h, cond_false, List.getElem_map]
theorem back_take_yes (p : Pat) (h : (p.op == 1) = true) (k : Nat) (hk : k < p.kids.length) (j : Nat) (hj : j < p.kids.length) (e : j = p.kids.length - 1 - k) : p.back.kids.take (k + 1) = p.back.kids.take k ++ [p.kids[j].back] := by
  have hl := back_kids_len p
  subst e
  rw [List.take_succ_eq_append_getElem (by omega)]
  congr 2
  simp only [back_eq p, kids_mk, h, cond_true, List.getElem_reverse, List.getElem_map, List.length_map]
theorem sub_idx (n k : Nat) (h : k < n) : ((n : Int) - 1 - (k : Int)) = ((n - 1 - k : Nat) : Int) := by omega
end Go.Proofs.YtkpfpegjapddfaaGreatDoor
set_option maxRecDepth 20000
namespace Go.Proofs.YtkpfpegjapddfaaGreatDoor
open Go.RowKit

/-- Each is as Make makes it: a Rep and a Not have one kid, a Rep's numbers are small. -/
def okS (l : List Pat) : Bool := l.all (fun p => p.ok && p.sm)
theorem okS_snoc (a b : List Pat) : okS (a ++ b) = (okS a && okS b) := by unfold okS; rw [List.all_append]
theorem okS_parts (l : List Pat) (h : okS l = true) : okL l = true ∧ Pat.sms l = true := by
  rw [okL_eq, sms_all]
  unfold okS at h
  simp only [List.all_eq_true, Bool.and_eq_true] at h ⊢
  exact ⟨fun p hp => (h p hp).1, fun p hp => (h p hp).2⟩
theorem split_two {α : Type} (L : List α) (h : 1 < L.length) : ∃ L0 x y, L = L0 ++ [x, y] := by
  rcases List.eq_nil_or_concat L with rfl | ⟨L1, y, rfl⟩
  · simp at h
  · rw [List.concat_eq_append] at h ⊢
    rcases List.eq_nil_or_concat L1 with rfl | ⟨L0, x, rfl⟩
    · simp at h
    · exact ⟨L0, x, y, by simp [List.concat_eq_append]⟩
theorem split_one {α : Type} (L : List α) (h : 0 < L.length) : ∃ L0 x, L = L0 ++ [x] := by
  rcases List.eq_nil_or_concat L with rfl | ⟨L1, y, rfl⟩
  · simp at h
  · exact ⟨L1, y, by rw [List.concat_eq_append]⟩
/-- The two last nodes become one. -/
theorem two_size (L0 : List (Pat × Value)) (x y : Pat) (xs ys ks : Value) (op : Int) (k : Nat) (h : Pat.sizes ((L0 ++ [(x, xs), (y, ys)]).map Prod.fst) ≤ k) : Pat.sizes ((L0 ++ [(Pat.mk op 0 0 0 [x, y], ks)]).map Prod.fst) ≤ k + 1 := by
  simp only [List.map_append, List.map_cons, List.map_nil, sizes_append, Pat.sizes, Pat.size] at h ⊢; omega
theorem two_ok (L0 : List (Pat × Value)) (x y : Pat) (xs ys ks : Value) (op : Int) (hop : (op != 3 && op != 5) = true) (h : okS ((L0 ++ [(x, xs), (y, ys)]).map Prod.fst) = true) : okS ((L0 ++ [(Pat.mk op 0 0 0 [x, y], ks)]).map Prod.fst) = true := by
  simp only [List.map_append, List.map_cons, List.map_nil, okS_snoc, Bool.and_eq_true] at h ⊢ hop
  refine ⟨h.1, ?_⟩
  have h2 := h.2
  simp only [okS, List.all_cons, List.all_nil, Bool.and_true, Bool.and_eq_true] at h2 ⊢
  simp [Pat.ok, okL, Pat.sm, Pat.sms, h2.1.1, h2.1.2, h2.2.1, h2.2.2, hop.1, hop.2]
theorem one_size (L0 : List (Pat × Value)) (x : Pat) (xs ks : Value) (op lo hi : Int) (k : Nat) (h : Pat.sizes ((L0 ++ [(x, xs)]).map Prod.fst) ≤ k) : Pat.sizes ((L0 ++ [(Pat.mk op 0 lo hi [x], ks)]).map Prod.fst) ≤ k + 1 := by
  simp only [List.map_append, List.map_cons, List.map_nil, sizes_append, Pat.sizes, Pat.size] at h ⊢; omega
theorem one_ok (L0 : List (Pat × Value)) (x : Pat) (xs ks : Value) (op lo hi : Int) (hbd : op = 3 → 0 ≤ lo ∧ lo < 100 ∧ hi < 100) (h : okS ((L0 ++ [(x, xs)]).map Prod.fst) = true) : okS ((L0 ++ [(Pat.mk op 0 lo hi [x], ks)]).map Prod.fst) = true := by
  simp only [List.map_append, List.map_cons, List.map_nil, okS_snoc, Bool.and_eq_true] at h ⊢
  refine ⟨h.1, ?_⟩
  have h2 := h.2
  simp only [okS, List.all_cons, List.all_nil, Bool.and_true, Bool.and_eq_true] at h2 ⊢
  simp only [Pat.ok, okL, Pat.sm, Pat.sms, h2.1, h2.2, Bool.and_true, Bool.or_eq_true, Bool.and_eq_true, decide_eq_true_eq, List.length_cons, List.length_nil]
  refine ⟨.inr (by decide), ?_⟩
  by_cases h3 : op = 3
  · obtain ⟨a, b, c⟩ := hbd h3
    exact .inr ⟨⟨a, b⟩, c⟩
  · exact .inl (by simpa using h3)
theorem new_size (L : List (Pat × Value)) (s : BitVec 256) (ks : Value) (k : Nat) (h : Pat.sizes (L.map Prod.fst) ≤ k) : Pat.sizes ((L ++ [(Pat.mk 0 s 0 0 [], ks)]).map Prod.fst) ≤ k + 1 := by
  simp only [List.map_append, List.map_cons, List.map_nil, sizes_append, Pat.sizes, Pat.size] at h ⊢; omega
theorem new_ok (L : List (Pat × Value)) (s : BitVec 256) (ks : Value) (h : okS (L.map Prod.fst) = true) : okS ((L ++ [(Pat.mk 0 s 0 0 [], ks)]).map Prod.fst) = true := by
  simp only [List.map_append, List.map_cons, List.map_nil, okS_snoc, h, Bool.true_and]
  rfl
/-- A node is stored in the place of the last ones: the row, cut. -/
theorem NRow.cut1 {w : World} {base g cap n : Nat} {L0 : List (Pat × Value)} {x : Pat × Value} (h : NRow w base (.slice (some ⟨g, 0, none⟩) n cap) (L0 ++ [x])) : L0.length + 1 = n := by
  rcases h.1.2 with ⟨e, _⟩ | ⟨g', cap', cur, e, _⟩
  · cases e
  · cases e; simp
theorem set_mid {α : Type} (L0 : List α) (x y z : α) (m : Nat) (hm : L0.length = m) : (L0 ++ [x, y]).set m z = (L0 ++ [z]) ++ [y] := by subst hm; simp
theorem set_last {α : Type} (L0 : List α) (x z : α) (m : Nat) (hm : L0.length = m) : (L0 ++ [x]).set m z = L0 ++ [z] := by subst hm; simp
set_option maxHeartbeats 400000 in
theorem rrep_m (p : Pat) (ks : Value) (lo hi : Int) (w : World) (base : Nat) (x : Option Nat) (hk : Kids (mask w base x) p.kids ks) (hb : base ≤ w.heap.size) (hx : ∀ g, x = some g → g < w.heap.size) :
    Calls Tryz.prog 18 #[(.agg #[.int .i64 p.op, .int .u64 (wd p.set 0), .int .u64 (wd p.set 1), .int .u64 (wd p.set 2), .int .u64 (wd p.set 3), .int .i64 p.lo, .int .i64 p.hi, ks]), .int .i64 lo, .int .i64 hi] w fun e w' => ∃ n, e = .returned (.agg #[.int .i64 (Pat.mk 3 0 lo hi [p]).op, .int .u64 (wd (Pat.mk 3 0 lo hi [p]).set 0), .int .u64 (wd (Pat.mk 3 0 lo hi [p]).set 1), .int .u64 (wd (Pat.mk 3 0 lo hi [p]).set 2), .int .u64 (wd (Pat.mk 3 0 lo hi [p]).set 3), .int .i64 (Pat.mk 3 0 lo hi [p]).lo, .int .i64 (Pat.mk 3 0 lo hi [p]).hi, .slice (some ⟨n, 0, none⟩) 1 1]) ∧ Kids (mask w' base x) [p] (.slice (some ⟨n, 0, none⟩) 1 1) ∧ Below w.heap.size w w' := by
  have hk0 := hk
  obtain ⟨a, cap, rfl⟩ := hk.len
  go_enter Tryz.func18, Tryz.ntmps18
  go_wp2
  refine bodyPost_ret (v := (.agg #[.int .i64 (Pat.mk 3 0 lo hi [p]).op, .int .u64 (wd (Pat.mk 3 0 lo hi [p]).set 0), .int .u64 (wd (Pat.mk 3 0 lo hi [p]).set 1), .int .u64 (wd (Pat.mk 3 0 lo hi [p]).set 2), .int .u64 (wd (Pat.mk 3 0 lo hi [p]).set 3), .int .i64 (Pat.mk 3 0 lo hi [p]).lo, .int .i64 (Pat.mk 3 0 lo hi [p]).hi, .slice (some ⟨w.heap.size + 1 + 1, 0, none⟩) 1 1])) (by simp [results, Tryz.results18, go_sem, Pat.op, Pat.set, Pat.lo, Pat.hi, wd_none]) rfl ⟨_, rfl, ?_, ?_⟩
  · exact (hk0.masked_below (below2 _ _ _)).oneM (by simp) (by omega) (fun e => by have := hx _ e.symm; omega)
  · exact below3 _ _ _ _
theorem below_1 (w : World) (o : Obj) : Below w.heap.size w (w.alloc o) := (Below.refl _ _).alloc (Nat.le_refl _) _
/-- A slice with no room behind it. -/
def tight : Value → Bool
  | .slice _ n c => n == c
  | _ => false
def okV (L : List (Pat × Value)) : Bool := okS (L.map Prod.fst) && L.all (fun x => tight x.2)
theorem two_okV (L0 : List (Pat × Value)) (x y : Pat) (xs ys ks : Value) (op : Int) (hop : (op != 3 && op != 5) = true) (ht : tight ks = true) (h : okV (L0 ++ [(x, xs), (y, ys)]) = true) : okV (L0 ++ [(Pat.mk op 0 0 0 [x, y], ks)]) = true := by
  unfold okV at h ⊢
  rw [Bool.and_eq_true] at h ⊢
  refine ⟨two_ok _ _ _ _ _ ks _ hop h.1, ?_⟩
  have h2 := h.2
  simp only [List.all_append, List.all_cons, List.all_nil, Bool.and_true, Bool.and_eq_true] at h2 ⊢
  exact ⟨h2.1, ht⟩
theorem one_okV (L0 : List (Pat × Value)) (x : Pat) (xs ks : Value) (op lo hi : Int) (hbd : op = 3 → 0 ≤ lo ∧ lo < 100 ∧ hi < 100) (ht : tight ks = true) (h : okV (L0 ++ [(x, xs)]) = true) : okV (L0 ++ [(Pat.mk op 0 lo hi [x], ks)]) = true := by
  unfold okV at h ⊢
  rw [Bool.and_eq_true] at h ⊢
  refine ⟨one_ok _ _ _ ks _ _ _ hbd h.1, ?_⟩
  have h2 := h.2
  simp only [List.all_append, List.all_cons, List.all_nil, Bool.and_true, Bool.and_eq_true] at h2 ⊢
  exact ⟨h2.1, ht⟩
theorem new_okV (L : List (Pat × Value)) (s : BitVec 256) (ks : Value) (ht : tight ks = true) (h : okV L = true) : okV (L ++ [(Pat.mk 0 s 0 0 [], ks)]) = true := by
  unfold okV at h ⊢
  rw [Bool.and_eq_true] at h ⊢
  refine ⟨new_ok _ _ ks h.1, ?_⟩
  have h2 := h.2
  simp only [List.all_append, List.all_cons, List.all_nil, Bool.and_true, Bool.and_eq_true]
  exact ⟨h2, ht⟩
/-- What a round of Make hands on. -/
def MkRel (N : Nat) (w : World) (k : Nat) (v : Value) (w' : World) : Prop := ∃ L : List (Pat × Value), k ≤ N ∧ Pat.sizes (L.map Prod.fst) ≤ k ∧ okV L = true ∧ NRow w' (w.heap.size + 1) v L ∧ Box w' w.heap.size z8 ∧ Below w.heap.size w w'
def loopOf : Code → Option Code
  | .loop c => some c
  | .seq a b => match loopOf a with
    | some c => some c
    | none => loopOf b
  | .block _ c => loopOf c
  | .scope c => loopOf c
  | .cond _ a b => match loopOf a with
    | some c => some c
    | none => loopOf b
  | _ => none
noncomputable def mkBody : Code := ((Tryz.f8.body.bind loopOf).getD .skip)
theorem new_rel {w w1 w7 : World} {N k : Nat} {L : List (Pat × Value)} {v v' : Value} {s : BitVec 256} {ks : Value}
    (hlt : k < N) (hr3 : NRow w1 (w.heap.size + 1) v L) (hown : w7.ownsRow (w.heap.size + 1) 28 8 v' (L.length + 1) (flatN L ++ [.int .i64 (Pat.mk 0 s 0 0 []).op, .int .u64 (wd (Pat.mk 0 s 0 0 []).set 0), .int .u64 (wd (Pat.mk 0 s 0 0 []).set 1), .int .u64 (wd (Pat.mk 0 s 0 0 []).set 2), .int .u64 (wd (Pat.mk 0 s 0 0 []).set 3), .int .i64 (Pat.mk 0 s 0 0 []).lo, .int .i64 (Pat.mk 0 s 0 0 []).hi, ks])) (hg : w1.grownBy w7 v.ownBlock) (hat : v'.ownBlock = v.ownBlock ∨ v'.ownBlock = some w1.heap.size)
    (hp : Kids (mask w1 (w.heap.size + 1) v.ownBlock) [] ks) (hz : Box w1 w.heap.size z8) (hb : Below w.heap.size w w1) (hsz : Pat.sizes (L.map Prod.fst) ≤ k) (hok : okV L = true) (ht : tight ks = true := by rfl) : MkRel N w (k + 1) v' w7 :=
  ⟨_, by omega, new_size _ _ _ _ hsz, new_okV _ _ _ ht hok, hr3.snoc (p := Pat.mk 0 s 0 0 []) hown hg hat hp, hz.grown hg (own_not hr3.1 (by omega)), below_grown hb hr3.1 hg (by omega)⟩
theorem two_end {w w6 : World} {N k m n m1 g cap : Nat} {L0 : List (Pat × Value)} {x1 y1 : Pat} {x2 y2 ks : Value} {op : Int}
    (hm : L0.length = m) (hn : n = m + 2) (hm1 : m1 = m + 1) (hlt : k < N) (hrow : NRow w6 (w.heap.size + 1) (.slice (some ⟨g, 0, none⟩) n cap) (L0 ++ [(x1, x2), (y1, y2)])) (hz : Box w6 w.heap.size z8) (hbw : Below w.heap.size w w6)
    (hK : Kids (mask w6 (w.heap.size + 1) (some g)) [x1, y1] ks) (hsz : Pat.sizes ((L0 ++ [(x1, x2), (y1, y2)]).map Prod.fst) ≤ k) (hok : okV (L0 ++ [(x1, x2), (y1, y2)]) = true) (hop : (op != 3 && op != 5) = true) (ht : tight ks = true := by rfl) :
    MkRel N w (k + 1) (.slice (some ⟨g, 0, none⟩) m1 cap) ((((((((w6.setCell ⟨g, m * 8, none⟩ (.int .i64 (Pat.mk op 0 0 0 [x1, y1]).op)).setCell ⟨g, m * 8 + 1, none⟩ (.int .u64 (wd (Pat.mk op 0 0 0 [x1, y1]).set 0))).setCell ⟨g, m * 8 + 2, none⟩ (.int .u64 (wd (Pat.mk op 0 0 0 [x1, y1]).set 1))).setCell ⟨g, m * 8 + 3, none⟩ (.int .u64 (wd (Pat.mk op 0 0 0 [x1, y1]).set 2))).setCell ⟨g, m * 8 + 4, none⟩ (.int .u64 (wd (Pat.mk op 0 0 0 [x1, y1]).set 3))).setCell ⟨g, m * 8 + 5, none⟩ (.int .i64 (Pat.mk op 0 0 0 [x1, y1]).lo)).setCell ⟨g, m * 8 + 6, none⟩ (.int .i64 (Pat.mk op 0 0 0 [x1, y1]).hi)).setCell ⟨g, m * 8 + 7, none⟩ ks) := by
  obtain ⟨h1, h2⟩ := hrow.set (i := m) (p := Pat.mk op 0 0 0 [x1, y1]) (ks := ks) (by simp [hm, hn]) (by simp [hm]) hK
  rw [set_mid _ _ _ _ _ hm] at h1
  rw [hn] at h1
  have h3 := h1.pop (by simp [hm])
  exact ⟨_, by omega, two_size _ _ _ _ _ _ _ _ hsz, two_okV _ _ _ _ _ _ _ hop ht hok, hm1 ▸ h3, hz.grown h2 (fun e => by have h9 : g = w.heap.size := Option.some.inj e; have := (hrow.1.lt g rfl).1; omega), below_grown hbw hrow.1 h2 (by omega)⟩
theorem one_end {w w6 : World} {N k m n g cap : Nat} {L0 : List (Pat × Value)} {x1 : Pat} {x2 ks : Value} {op lo hi : Int}
    (hm : L0.length = m) (hn : n = m + 1) (hlt : k < N) (hrow : NRow w6 (w.heap.size + 1) (.slice (some ⟨g, 0, none⟩) n cap) (L0 ++ [(x1, x2)])) (hz : Box w6 w.heap.size z8) (hbw : Below w.heap.size w w6)
    (hK : Kids (mask w6 (w.heap.size + 1) (some g)) [x1] ks) (hsz : Pat.sizes ((L0 ++ [(x1, x2)]).map Prod.fst) ≤ k) (hok : okV (L0 ++ [(x1, x2)]) = true) (hbd : op = 3 → 0 ≤ lo ∧ lo < 100 ∧ hi < 100) (ht : tight ks = true := by rfl) :
    MkRel N w (k + 1) (.slice (some ⟨g, 0, none⟩) n cap) ((((((((w6.setCell ⟨g, m * 8, none⟩ (.int .i64 (Pat.mk op 0 lo hi [x1]).op)).setCell ⟨g, m * 8 + 1, none⟩ (.int .u64 (wd (Pat.mk op 0 lo hi [x1]).set 0))).setCell ⟨g, m * 8 + 2, none⟩ (.int .u64 (wd (Pat.mk op 0 lo hi [x1]).set 1))).setCell ⟨g, m * 8 + 3, none⟩ (.int .u64 (wd (Pat.mk op 0 lo hi [x1]).set 2))).setCell ⟨g, m * 8 + 4, none⟩ (.int .u64 (wd (Pat.mk op 0 lo hi [x1]).set 3))).setCell ⟨g, m * 8 + 5, none⟩ (.int .i64 (Pat.mk op 0 lo hi [x1]).lo)).setCell ⟨g, m * 8 + 6, none⟩ (.int .i64 (Pat.mk op 0 lo hi [x1]).hi)).setCell ⟨g, m * 8 + 7, none⟩ ks) := by
  obtain ⟨h1, h2⟩ := hrow.set (i := m) (p := (Pat.mk op 0 lo hi [x1])) (ks := ks) (by simp [hm, hn]) (by simp [hm]) hK
  rw [set_last _ _ _ _ hm] at h1
  exact ⟨_, by omega, one_size _ _ _ _ _ _ _ _ hsz, one_okV _ _ _ _ _ _ _ hbd ht hok, h1, hz.grown h2 (fun e => by have h9 : g = w.heap.size := Option.some.inj e; have := (hrow.1.lt g rfl).1; omega), below_grown hbw hrow.1 h2 (by omega)⟩
end Go.Proofs.YtkpfpegjapddfaaGreatDoor
set_option maxRecDepth 20000
namespace Go.Proofs.YtkpfpegjapddfaaGreatDoor
open Go.RowKit

theorem partOf_len (least : Int) (x : Int × List UInt8) : (partOf least x).length ≤ x.2.length + 2 := by
  unfold partOf
  split <;> simp
def lens (l : List (Int × List UInt8)) : Nat := (l.map (fun x => x.2.length + 3)).sum
theorem lens_cons (x : Int × List UInt8) (l : List (Int × List UInt8)) : lens (x :: l) = (x.2.length + 3) + lens l := by simp [lens]
theorem rest_len (sep : List UInt8) (hs : sep.length ≤ 1) (least : Int) : ∀ (l : List (Int × List UInt8)), (l.flatMap (fun y => sep ++ partOf least y)).length ≤ lens l
  | [] => by simp
  | x :: l => by
    have := rest_len sep hs least l
    have := partOf_len least x
    rw [lens_cons, List.flatMap_cons, List.length_append, List.length_append]
    omega
theorem rowO_len (sep : List UInt8) (hs : sep.length ≤ 1) (least : Int) : ∀ (l : List (Int × List UInt8)), (rowO sep least l).length ≤ lens l
  | [] => by simp [rowO]
  | x :: l => by
    have := rest_len sep hs least l
    have := partOf_len least x
    rw [lens_cons, rowO, List.length_append]
    omega
theorem textOf_len (op : Int) (s : BitVec 256) (lo hi : Int) (l : List (Int × List UInt8)) (h : op = 3 → lo < 100 ∧ hi < 100) : (textOf op s lo hi l).length ≤ 2307 + lens l := by
  have hc := classOut_len s
  have r0 := rowO_len [] (by decide) 3 l
  have r1 := rowO_len [124] (by decide) 1 l
  have r2 := rowO_len [38] (by decide) 2 l
  have r3 := rowO_len [] (by decide) 4 l
  unfold textOf
  by_cases h0 : op = 0
  · rw [if_pos h0]; omega
  rw [if_neg h0]
  by_cases h1 : op = 1
  · rw [if_pos h1]; omega
  rw [if_neg h1]
  by_cases h2 : op = 2
  · rw [if_pos h2, List.length_append]
    split <;> simp <;> omega
  rw [if_neg h2]
  by_cases h4 : op = 4
  · rw [if_pos h4, List.length_append]
    split <;> simp <;> omega
  rw [if_neg h4]
  by_cases h5 : op = 5
  · rw [if_pos h5, List.length_append]
    simp
    omega
  rw [if_neg h5]
  by_cases h3 : op = 3
  · rw [if_pos h3, List.length_append]
    have := repOut_len lo hi (h h3).1 (h h3).2
    omega
  · rw [if_neg h3]
    simp
theorem lens_le (l : List Pat) (h : ∀ k ∈ l, k.shw.2.length + 3 ≤ 2310 * k.size) : lens (Pat.shws l) ≤ 2310 * Pat.sizes l := by
  induction l with
  | nil => simp [Pat.shws, lens]
  | cons p ps ih =>
    have h1 := h p (by simp)
    have h2 := ih fun k hk => h k (by simp [hk])
    rw [Pat.shws, lens_cons, Pat.sizes]
    omega
/-- A shown pattern's length is bounded by its size. -/
theorem shw_len : ∀ (n : Nat) (p : Pat), p.size ≤ n → p.sm = true → p.shw.2.length + 3 ≤ 2310 * p.size
  | 0, p, h, _ => by have := size_eq p; omega
  | n + 1, p, h, hm => by
    have hs := size_eq p
    obtain ⟨h3, hk⟩ := sm_parts hm
    have ih : ∀ k ∈ p.kids, k.shw.2.length + 3 ≤ 2310 * k.size := fun k hkm => by
      obtain ⟨i, hi, rfl⟩ := List.getElem_of_mem hkm
      have := size_kid p.kids i hi
      exact shw_len n _ (by omega) (hk _ hkm)
    by_cases hl : isL p.op = true ∧ p.kids.length = 1
    · obtain ⟨k, hk1⟩ := List.length_eq_one_iff.1 hl.2
      have := ih k (by rw [hk1]; simp)
      rw [shw_one hl.1 hk1]
      rw [hk1] at hs
      simp only [Pat.sizes] at hs
      omega
    · have := textOf_len p.op p.set p.lo p.hi (Pat.shws p.kids) (fun h => ⟨(h3 h).2.1, (h3 h).2.2⟩)
      have := lens_le p.kids ih
      rw [shw_self hl]
      simp only
      omega
end Go.Proofs.YtkpfpegjapddfaaGreatDoor
