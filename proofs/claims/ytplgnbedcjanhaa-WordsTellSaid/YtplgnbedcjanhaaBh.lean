/- Contract: words.All. -/
import Derived.Test.YtplgnbedcjanhaaBg
set_option maxRecDepth 100000
namespace Go.Proofs.Ytplgnbedcjanhaa
open Go.RowKit Go.Shelf
attribute [local go_sem] Oper.semAt_some

theorem cells_keep {A B : World} {row : Option Nat} {b : Nat} {c : Array Value} {t : TypeId} {fz : Nat × Nat} (h : A.heap[b]? = some (.cells c t fz)) (hg : A.grownBy B row) (hr : ∀ r, row = some r → ∃ o : Obj, A.heap[r]? = some o ∧ o.isCells = false) : B.heap[b]? = some (.cells c t fz) := by
  rw [hg.block b (Array.getElem?_eq_some_iff.1 h).1 (fun e => ?_)]
  · exact h
  · obtain ⟨o, ho, hc⟩ := hr b e.symm
    rw [h] at ho; cases ho; cases hc
theorem keepS_alloc {n₀ : Nat} {W : World} (h : n₀ ≤ W.heap.size) (o : Obj) : KeepS n₀ W (W.alloc o) :=
  ⟨(Below.refl _ _).alloc h _, fun k _ _ hk => (Below.heap_alloc _ _ k (Array.getElem?_eq_some_iff.1 hk).1).trans hk⟩
theorem keepS_setCell {n₀ B : Nat} {t : TypeId} {W : World} {v : Value} (hb : Boxed W B t v) (ht : t ≠ 9) (h : n₀ ≤ B) (u : Value) : KeepS n₀ W (W.setCell ⟨B, 0, none⟩ u) :=
  ⟨(Below.refl _ _).setCell (p := ⟨B, 0, none⟩) h _, fun k c fz hk => by
    by_cases e : k = B
    · subst e; unfold Boxed at hb; rw [hb] at hk; cases hk; exact absurd rfl ht
    · rw [Below.heap_setCell _ _ _ _ e]; exact hk⟩
theorem keepS_grown {n₀ size : Nat} {e : TypeId} {W W' : World} {v : Value} {k : Nat} {xs : List Value} (hr : W.ownsRow n₀ e size v k xs) (he : e ≠ 9) (hg : W.grownBy W' v.ownBlock) (h : n₀ ≤ W.heap.size) : KeepS n₀ W W' :=
  ⟨(Below.refl _ _).grown hg h (fun j ej => (hr.lt j ej).1), fun j c fz hj => by
    rw [hg.block j (Array.getElem?_eq_some_iff.1 hj).1 (fun ej => ?_)]
    · exact hj
    · rcases hr.2 with ⟨rfl, _⟩ | ⟨g, cap, cur, rfl, _, hgb, _⟩
      · simp [Value.ownBlock] at ej
      · obtain rfl : j = g := by simpa [Value.ownBlock] using ej
        rw [hgb] at hj; cases hj; exact he rfl⟩
/-- Words, cell by cell. -/
def wdC (x : Wd) : List Value := [.int .i64 x.kind, .string (strOf x.txt), .int .i64 (x.pos : Nat)]
def flatW (l : List Wd) : List Value := l.flatMap wdC
theorem flatW_snoc (l : List Wd) (x : Wd) : flatW (l ++ [x]) = flatW l ++ wdC x := by simp [flatW]
theorem infoWord : (Try.prog.info? 35).map (fun i => (i.zero, i.size, i.bytes)) = some (some (.agg #[.int .i64 0, .string ⟨#[]⟩, .int .i64 0]), 3, 32) := by kernel_rfl
/-- What All works on: its results' variables, the row of words. -/
def AllI (N : Nat) (w : World) (pre : List Item) (W : World) : Prop := (∃ v, Boxed W (N + 1 + 1 + 1) 23 v ∧ W.ownsRow N 35 3 v pre.length (flatW (pre.map (·.1)))) ∧ Boxed W N 23 (.slice none 0 0) ∧ Boxed W (N + 1) 24 (.int .i64 0) ∧ Boxed W (N + 1 + 1) 3 (.int .i64 0) ∧ Below N w W ∧ ∀ x ∈ pre, x.2 = true
def AllX (N : Nat) (w : World) (c : Code) (pre : List Item) (W : World) : Prop := c = .ret ∧ ∃ ys q, pre = ys ++ [(q, false)] ∧ Boxed W N 23 (.slice none 0 0) ∧ Boxed W (N + 1) 24 (.int .i64 120) ∧ Boxed W (N + 1 + 1) 3 (.int .i64 (q.pos : Nat)) ∧ Below N w W
theorem allI_own {N M : Nat} {w : World} (hw : w.heap.size = N) (hM : N ≤ M) : OwnFrom M (AllI N w) := fun s A B row hs hg hr => by
  obtain ⟨⟨v, h1, h2⟩, h3, h4, h5, h6, h7⟩ := hs
  have hc : ∀ r, row = some r → ∃ o : Obj, A.heap[r]? = some o ∧ o.isCells = false := fun r e => (hr r e).2
  exact ⟨⟨v, cells_keep h1 hg hc, row_keep h2 fun g _ _ hb => cells_keep hb hg hc⟩, cells_keep h3 hg hc, cells_keep h4 hg hc, cells_keep h5 hg hc, h6.grown hg (by have := h6.size; omega) (fun k hk => by have := (hr k hk).1; omega), h7⟩
theorem allX_own {N M : Nat} {w : World} (hw : w.heap.size = N) (hM : N ≤ M) (c : Code) : OwnFrom M (AllX N w c) := fun s A B row hs hg hr => by
  obtain ⟨h0, ys, q, h1, h3, h4, h5, h6⟩ := hs
  have hc : ∀ r, row = some r → ∃ o : Obj, A.heap[r]? = some o ∧ o.isCells = false := fun r e => (hr r e).2
  exact ⟨h0, ys, q, h1, cells_keep h3 hg hc, cells_keep h4 hg hc, cells_keep h5 hg hc, h6.grown hg (by have := h6.size; omega) (fun k hk => by have := (hr k hk).1; omega)⟩
/-- A word in a block of its own. -/
def WdAt (W : World) (b : Nat) (x : Wd) : Prop := W.heap[b]? = some (.cells (wdC x).toArray 35 (0, 0))
theorem WdAt.cells {W : World} {b : Nat} {x : Wd} (h : WdAt W b x) : W.cell? ⟨b, 0, none⟩ = some (.int .i64 x.kind) ∧ W.cell? ⟨b, 1, none⟩ = some (.string (strOf x.txt)) ∧ W.cell? ⟨b, 2, none⟩ = some (.int .i64 (x.pos : Nat)) :=
  ⟨(cell_of_row _ _ 0 _ _ _ h).trans rfl, (cell_of_row _ _ 1 _ _ _ h).trans rfl, (cell_of_row _ _ 2 _ _ _ h).trans rfl⟩
theorem keepsFrom_drew {B : Nat} {W X : World} (h : KeepsFrom B W X) : KeepsFrom B W X.drew := ⟨h.size, h.same⟩
theorem boxed_put {X : World} {b D : Nat} {t : TypeId} {v : Value} {o : Obj} (h : Boxed X b t v) (hne : b ≠ D) : Boxed (X.putObj D o) b t v := by
  unfold Boxed
  rw [World.putObj_heap_other hne]; exact h
theorem own_form {w : World} {B n sz : Nat} {e : TypeId} {v : Value} {l : List Value} (h : w.ownsRow B e sz v n l) : ∃ a cp, v = .slice a n cp := by
  rcases h.2 with ⟨rfl, h2⟩ | ⟨g, cap, cur, rfl, _⟩
  · exact ⟨none, 0, by rw [h2]⟩
  · exact ⟨_, _, rfl⟩
theorem items_all {l : List Nat} {xs : List Item} (h : xs = itemsOf (allW l)) (h2 : ∀ x ∈ xs, x.2 = true) : (allW l).2 = none ∧ xs.map (·.1) = (allW l).1 := by
  subst h
  unfold itemsOf at h2 ⊢
  cases h3 : (allW l).2 with
  | none => exact ⟨rfl, by rw [List.append_nil, List.map_map]; exact List.map_id _⟩
  | some e =>
    rw [h3] at h2
    have := h2 (⟨0, [], e⟩, false) (by simp)
    cases this
theorem items_false {l : List Nat} {ys : List Item} {q : Wd} (h : ys ++ [(q, false)] <+: itemsOf (allW l)) : (allW l).2 = some q.pos := by
  have hm : (q, false) ∈ itemsOf (allW l) := h.subset (by simp)
  unfold itemsOf at hm
  rcases List.mem_append.1 hm with h1 | h1
  · obtain ⟨x, _, hx⟩ := List.mem_map.1 h1
    cases hx
  · cases h3 : (allW l).2 with
    | none => rw [h3] at h1; simp at h1
    | some e => rw [h3] at h1; simp at h1; subst h1; rfl
set_option linter.unusedSimpArgs false in
set_option maxHeartbeats 8000000 in
theorem all_any (s : ByteArray) (l : List Nat) (hsl : bytesOf s = l) (hsz : s.size ≤ 65536) (w : World) :
    Calls Try.prog 8 #[.string s] w fun e w' => ((∃ p : Nat, (allW l).2 = some p ∧ e = .returned (.tuple #[.slice none 0 0, .int .i64 120, .int .i64 p])) ∨ ((allW l).2 = none ∧ ∃ v, e = .returned (.tuple #[v, .int .i64 0, .int .i64 0]) ∧ Hid (w'.ownsRow w.heap.size 35 3 v (allW l).1.length (flatW (allW l).1)))) ∧ Hid (Below w.heap.size w w') := by
  refine (callsIn_wide (n := 3)).1 ?_
  obtain ⟨i0, hi, hz0, hz1, hz2⟩ := info_parts infoWord
  refine callsIn_of_wp_marks Try.func8 rfl trivial ?_ rfl
  simp only [Try.ntmps8, List.size_toArray, List.length_cons, List.length_nil, Nat.reduceAdd, Nat.reduceSub, Array.replicate_succ, Array.replicate_zero, List.push_toArray, List.append_toArray, List.nil_append, List.cons_append]
  have hd : decide ((s.size : Int) > 65536) = false := decide_eq_false (by omega)
  have hd2 : decide ((65536 : Int) < s.size) = false := decide_eq_false (by omega)
  have HEA := Lib.hid (fun W => each_any s W)
  have b1 := (((Boxed.new w 23 (.slice none 0 0)).alloc (.cells #[.int .i64 0] 24)).alloc (.cells #[.int .i64 0] 3)).alloc (.cells #[.slice none 0 0] 23) |>.alloc (.cells #[.string s] 9)
  have b2 := ((Boxed.new (w.alloc (.cells #[.slice none 0 0] 23)) 24 (.int .i64 0)).alloc (.cells #[.int .i64 0] 3)).alloc (.cells #[.slice none 0 0] 23) |>.alloc (.cells #[.string s] 9)
  have b3 := ((Boxed.new ((w.alloc (.cells #[.slice none 0 0] 23)).alloc (.cells #[.int .i64 0] 24)) 3 (.int .i64 0)).alloc (.cells #[.slice none 0 0] 23)).alloc (.cells #[.string s] 9)
  have b4 := (Boxed.new (((w.alloc (.cells #[.slice none 0 0] 23)).alloc (.cells #[.int .i64 0] 24)).alloc (.cells #[.int .i64 0] 3)) 23 (.slice none 0 0)).alloc (.cells #[.string s] 9)
  have b5 := Boxed.new ((((w.alloc (.cells #[.slice none 0 0] 23)).alloc (.cells #[.int .i64 0] 24)).alloc (.cells #[.int .i64 0] 3)).alloc (.cells #[.slice none 0 0] 23)) 9 (.string s)
  have hB0 : Below w.heap.size w (((((w.alloc (.cells #[.slice none 0 0] 23)).alloc (.cells #[.int .i64 0] 24)).alloc (.cells #[.int .i64 0] 3)).alloc (.cells #[.slice none 0 0] 23)).alloc (.cells #[.string s] 9)) := (((((Below.refl _ w).alloc (Nat.le_refl _) _).alloc (by simp) _).alloc (by simp; omega) _).alloc (by simp; omega) _).alloc (by simp; omega) _
  have hsz0 : (((((w.alloc (.cells #[.slice none 0 0] 23)).alloc (.cells #[.int .i64 0] 24)).alloc (.cells #[.int .i64 0] 3)).alloc (.cells #[.slice none 0 0] 23)).alloc (.cells #[.string s] 9)).heap.size = w.heap.size + 5 := by simp
  simp only [World.size_alloc] at b1 b2 b3 b4 b5
  gi_wp2_with (refine ⟨trivial, ?_⟩; gi_at_call 18; refine (callsIn_wide.2 (HEA.out _)).mono ?_; rintro e w' ⟨rfl, rfl⟩)
  obtain ⟨W0, hW0⟩ : ∃ W0, (((((w.alloc (.cells #[.slice none 0 0] 23)).alloc (.cells #[.int .i64 0] 24)).alloc (.cells #[.int .i64 0] 3)).alloc (.cells #[.slice none 0 0] 23)).alloc (.cells #[.string s] 9)) = W0 := ⟨_, rfl⟩
  rw [hW0] at b1 b2 b3 b4 b5 hB0 hsz0 ⊢
  clear hW0
  obtain ⟨N, hN⟩ : ∃ N, w.heap.size = N := ⟨_, rfl⟩
  rw [hN] at b1 b2 b3 b4 b5 hB0 hsz0 ⊢
  refine wpIn_rangeFunc_ownH rfl (by omega) (gf := 30) (lb := #[.pointer (some ⟨N + 1 + 1 + 1 + 1, 0, none⟩)]) rfl trivial (enters_of Try.func30 (by kernel_rfl) rfl)
    (each_stops 2 (by omega) (N + 1 + 1 + 1 + 1) N s l hsl hsz W0 b5 (by omega)) KeepS.trans (keepS_b (by omega)) (Below.refl _ _) (fun _ => rfl)
    (AllI N w) (AllX N w) (allI_own hN (by omega)) (allX_own hN (by omega))
    ⟨⟨_, b4, World.ownsRow_nil _ _ _ _⟩, b1, b2, b3, hB0, fun x h => by cases h⟩
    (fun x a' W => ∃ Bx, WdAt W Bx x.1 ∧ a' = { tmps := #[.string s, undef, .pointer (some ⟨N, 0, none⟩), .pointer (some ⟨N + 1, 0, none⟩), .pointer (some ⟨N + 1 + 1, 0, none⟩), .pointer (some ⟨N + 1 + 1 + 1, 0, none⟩), .pointer (some ⟨Bx, 0, none⟩), .bool x.2, .string s, .int .i64 s.size, .bool false, .string s, .func (.func 30) #[] #[.pointer (some ⟨N + 1 + 1 + 1 + 1, 0, none⟩)], wdV x.1, .bool x.2, undef, undef, undef, undef, undef, undef, undef, undef, undef], defers := [] })
    (fun x a' _ X Y row hs hg hr => by obtain ⟨Bx, h2, h3⟩ := hs; exact ⟨Bx, cells_keep h2 hg (fun r e => (hr r e).2), h3⟩)
    ?assign ?body ?done ?stop
  case assign =>
    rintro y pre x W K ⟨⟨v, bv, hr⟩, r1, r2, r3, hB1, ht⟩ hK
    dsimp only [wdV]
    gi_wp2
    refine hK _ _ ((KeepsOthers.alloc _ _).from _) (keepS_alloc (by have := hB1.size; omega) _) ⟨⟨v, bv.alloc _, hr.alloc _⟩, r1.alloc _, r2.alloc _, r3.alloc _, hB1.alloc (by have := hB1.size; omega) _, ht⟩ ⟨W.heap.size, ?_, rfl⟩
    exact heap_alloc_new W _
  case body =>
    rintro y pre x a' W hl ⟨r, hr⟩ ⟨⟨v, bv, hrow⟩, r1, r2, r3, hB1, ht⟩ ⟨Bx, hPx, rfl⟩ hlt
    obtain ⟨p0, p1, p2⟩ := hPx.cells
    have hc := bv.cell
    have hbs : N ≤ W.heap.size := by have := hB1.size; omega
    obtain ⟨x, ok⟩ := x
    dsimp only at p0 p1 p2 hPx ⊢
    dsimp only [wdV]
    cases ok
    · have f1 := r1.frozen
      have f2 := r2.frozen
      have f3 := r3.frozen
      have g1 := r1.cell
      have g2 := r2.cell
      have g3 := r3.cell
      have n1 : Bx ≠ N := fun e => by subst e; unfold WdAt at hPx; unfold Boxed at r1; rw [hPx] at r1; exact absurd (Obj.cells.inj (Option.some.inj r1)).2.1 (by decide)
      have n2 : Bx ≠ N + 1 := fun e => by subst e; unfold WdAt at hPx; unfold Boxed at r2; rw [hPx] at r2; exact absurd (Obj.cells.inj (Option.some.inj r2)).2.1 (by decide)
      have n3 : Bx ≠ N + 1 + 1 := fun e => by subst e; unfold WdAt at hPx; unfold Boxed at r3; rw [hPx] at r3; exact absurd (Obj.cells.inj (Option.some.inj r3)).2.1 (by decide)
      have k1 : KeepsFrom W0.heap.size W (((W.setCell ⟨N, 0, none⟩ (.slice none 0 0)).setCell ⟨N + 1, 0, none⟩ (.int .i64 120)).setCell ⟨N + 1 + 1, 0, none⟩ (.int .i64 (x.pos : Nat))) := (((KeepsOthers.setCell W _ _).trans (KeepsOthers.setCell _ _ _)).trans (KeepsOthers.setCell _ _ _)).from _
      have k2 : Boxed (((W.setCell ⟨N, 0, none⟩ (.slice none 0 0)).setCell ⟨N + 1, 0, none⟩ (.int .i64 120)).setCell ⟨N + 1 + 1, 0, none⟩ (.int .i64 (x.pos : Nat))) N 23 (.slice none 0 0) := ((r1.set _).other (by omega) _).other (by omega) _
      have k3 : Boxed (((W.setCell ⟨N, 0, none⟩ (.slice none 0 0)).setCell ⟨N + 1, 0, none⟩ (.int .i64 120)).setCell ⟨N + 1 + 1, 0, none⟩ (.int .i64 (x.pos : Nat))) (N + 1) 24 (.int .i64 120) := ((r2.other (by omega) _).set _).other (by omega) _
      have k4 : Boxed (((W.setCell ⟨N, 0, none⟩ (.slice none 0 0)).setCell ⟨N + 1, 0, none⟩ (.int .i64 120)).setCell ⟨N + 1 + 1, 0, none⟩ (.int .i64 (x.pos : Nat))) (N + 1 + 1) 3 (.int .i64 (x.pos : Nat)) := ((r3.other (by omega) _).other (by omega) _).set _
      have k5 : Below N w (((W.setCell ⟨N, 0, none⟩ (.slice none 0 0)).setCell ⟨N + 1, 0, none⟩ (.int .i64 120)).setCell ⟨N + 1 + 1, 0, none⟩ (.int .i64 (x.pos : Nat))) := ((hB1.setCell (p := ⟨N, 0, none⟩) (by simp) _).setCell (p := ⟨N + 1, 0, none⟩) (by simp) _).setCell (p := ⟨N + 1 + 1, 0, none⟩) (by simp; omega) _
      have K := Lib.hid (⟨k1, k2, k3, k4, k5⟩ : _ ∧ _ ∧ _ ∧ _ ∧ _)
      clear k1 k2 k3 k4 k5
      gi_wp2_with fail
      gi_region
      all_goals gi_wp2
      all_goals exact ⟨keepsFrom_drew K.out.1, rfl, pre, x, rfl, K.out.2.1, K.out.2.2.1, K.out.2.2.2.1, below_drewN K.out.2.2.2.2 1⟩
    · gi_wp2_with (gi_at_builtin; refine wpListIn_append_own _ rfl _ _ 23 rfl N 35 i0 (.agg #[.int .i64 0, .string ⟨#[]⟩, .int .i64 0]) 3 32 Try.underlying23 hi hz0 hz1 hz2 rfl (by decide) _ _ _ rfl (hrow.alloc _) ⟨W.heap.size, 0, none⟩ 1 1 (wdC x) rfl rfl (news_in (cs := (wdC x).toArray) (heap_alloc_new W _)) (by simp [wdC, Value.oneCell']) (by unfold maxLen; omega) (by omega) (by simp; omega) ?_; intro v' w1 hown' hgrow _; obtain ⟨g', cap', rfl⟩ := ownsRow_succ hown'; obtain ⟨hv1, hv2, hr2, hk2, hb2⟩ := bv.appended (by decide) hrow hbs (by omega) hown' hgrow; have hc1 := hv1.cell; have hf1 := hv1.frozen)
      refine ⟨hk2.from _, ?_, ⟨⟨_, hv2, ?_⟩, ?_, ?_, ?_, hB1.trans hb2, ?_⟩⟩
      · exact ((keepS_alloc hbs _).trans (keepS_grown (hrow.alloc _) (by decide) hgrow (by simp; omega))).trans (keepS_setCell hv1 (by decide) (by omega) _)
      · rw [List.length_append, List.map_append, List.map_singleton, flatW_snoc]; exact hr2
      · exact ((r1.alloc _).kept hgrow (r1.not_row (by decide) hrow)).other (by omega) _
      · exact ((r2.alloc _).kept hgrow (r2.not_row (by decide) hrow)).other (by omega) _
      · exact ((r3.alloc _).kept hgrow (r3.not_row (by decide) hrow)).other (by omega) _
      · intro z hz
        rcases List.mem_append.1 hz with h | h
        · exact ht z h
        · rw [List.mem_singleton] at h; subst h; rfl
  case done =>
    rintro D ys W hD hys ⟨⟨v, bv, hrow⟩, r1, r2, r3, hB1, ht⟩ hK
    obtain ⟨va, vc, rfl⟩ := own_form hrow
    have HYS := Lib.hid hys
    clear hys
    have hc := bv.cell
    have f1 := r1.frozen
    have f2 := r2.frozen
    have f3 := r3.frozen
    have g1 := r1.cell
    have g2 := r2.cell
    have g3 := r3.cell
    obtain ⟨X, hX⟩ : ∃ X, ((W.setCell ⟨N, 0, none⟩ (.slice va ys.length vc)).setCell ⟨N + 1, 0, none⟩ (.int .i64 0)).setCell ⟨N + 1 + 1, 0, none⟩ (.int .i64 0) = X := ⟨_, rfl⟩
    have x1 : Boxed X N 23 (.slice va ys.length vc) := by rw [← hX]; exact ((r1.set _).other (by omega) _).other (by omega) _
    have x2 : Boxed X (N + 1) 24 (.int .i64 0) := by rw [← hX]; exact ((r2.other (by omega) _).set _).other (by omega) _
    have x3 : Boxed X (N + 1 + 1) 3 (.int .i64 0) := by rw [← hX]; exact ((r3.other (by omega) _).other (by omega) _).set _
    have xb : Below N w X := by rw [← hX]; exact ((hB1.setCell (p := ⟨N, 0, none⟩) (by simp) _).setCell (p := ⟨N + 1, 0, none⟩) (by simp) _).setCell (p := ⟨N + 1 + 1, 0, none⟩) (by simp; omega) _
    have xk : X.heap[D]? = some (.deferred (some [])) := by rw [← hX]; exact (((KeepsOthers.setCell W _ _).trans (KeepsOthers.setCell _ _ _)).trans (KeepsOthers.setCell _ _ _)).same D _ hK rfl
    have xr : X.ownsRow N 35 3 (.slice va ys.length vc) ys.length (flatW (ys.map (·.1))) := by
      rw [← hX]
      refine row_keep hrow fun g cs hg hb => ?_
      have e1 : g ≠ N := fun e => by subst e; unfold Boxed at r1; rw [hb] at r1; exact absurd (Obj.cells.inj (Option.some.inj r1)).2.1 (by decide)
      have e2 : g ≠ N + 1 := fun e => by subst e; unfold Boxed at r2; rw [hb] at r2; exact absurd (Obj.cells.inj (Option.some.inj r2)).2.1 (by decide)
      have e3 : g ≠ N + 1 + 1 := fun e => by subst e; unfold Boxed at r3; rw [hb] at r3; exact absurd (Obj.cells.inj (Option.some.inj r3)).2.1 (by decide)
      rw [Below.heap_setCell _ _ _ _ e3, Below.heap_setCell _ _ _ _ e2, Below.heap_setCell _ _ _ _ e1]; exact hb
    have XK := Lib.hid (⟨x1, x2, x3, xb, xk, xr⟩ : _ ∧ _ ∧ _ ∧ _ ∧ _ ∧ _)
    have HX := Lib.hid hX
    clear x1 x2 x3 xb xk xr hX
    gi_wp2
    rw [HX.out]
    obtain ⟨x1, x2, x3, xb, xk, xr⟩ := XK.out
    refine ⟨by simp, .inl ⟨_, _, rfl, run_takeDeferred xk, ?_⟩⟩
    have ne1 : N ≠ D := by omega
    have y1 := (boxed_put (o := .deferred none) x1 (show N ≠ D by omega)).cell
    have y2 := (boxed_put (o := .deferred none) x2 (show N + 1 ≠ D by omega)).cell
    have y3 := (boxed_put (o := .deferred none) x3 (show N + 1 + 1 ≠ D by omega)).cell
    refine ⟨.tuple #[.slice va ys.length vc, .int .i64 0, .int .i64 0], by simp [results, Try.results8, go_sem, y1, y2, y3], .inr ?_, ?_⟩
    · obtain ⟨h1, h2⟩ := items_all HYS.out ht
      have h3 : ys.length = (allW l).1.length := by rw [← h2, List.length_map]
      refine ⟨h1, _, rfl, Lib.hid ?_⟩
      rw [← h2, List.length_map, hN]
      exact ownsRow_putObj xr _ xk rfl
    · rw [hN]
      exact Lib.hid (xb.trans (belowK_b (w := w) (by omega) X D _ _ (by omega) xk rfl rfl))
  case stop =>
    rintro D c pre W hD hSp ⟨rfl, ys, q, rfl, r1, r2, r3, hB1⟩ hK
    have g1 := r1.cell
    have g2 := r2.cell
    have g3 := r3.cell
    gi_wp2
    refine ⟨by simp, .inl ⟨_, _, rfl, run_takeDeferred hK, ?_⟩⟩
    have y1 := (boxed_put (o := .deferred none) r1 (show N ≠ D by omega)).cell
    have y2 := (boxed_put (o := .deferred none) r2 (show N + 1 ≠ D by omega)).cell
    have y3 := (boxed_put (o := .deferred none) r3 (show N + 1 + 1 ≠ D by omega)).cell
    refine ⟨.tuple #[.slice none 0 0, .int .i64 120, .int .i64 (q.pos : Nat)], by simp [results, Try.results8, go_sem, y1, y2, y3], .inl ⟨q.pos, items_false hSp, rfl⟩, ?_⟩
    rw [hN]
    exact Lib.hid (hB1.trans (belowK_b (w := w) (by omega) W D _ _ (by omega) hK rfl rfl))
end Go.Proofs.Ytplgnbedcjanhaa
