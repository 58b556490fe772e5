/- Texts that a proof rests on: The contract of Ranges. -/
import Derived.Test.YtkpfpegjapddfaaGreatDoorK07
import Derived.WalkSmall
set_option maxRecDepth 100000
namespace Go.Proofs.YtkpfpegjapddfaaGreatDoor
open Go.RowKit Go.Shelf
attribute [local go_sem] Oper.semAt_some

theorem runs_stops (n : Nat) (hn : 1 ≤ n) (Bs n₀ : Nat) (s : BitVec 256) (w : World) (hT : Tab w) (hg : 0 < n₀) (hs : SetAt w Bs s) :
    SeqStopsK Fence.wide n Tryz.prog 87 #[.pointer (some ⟨Bs, 0, none⟩)] (fun x : Nat × Nat => #[Value.agg #[.int .u8 x.1, .int .u8 x.2]]) (KeepSets n₀) (fun ys => ys = runs s 0) (fun pre => pre <+: runs s 0) 256 w := fun l J Jx W hW hA _ hY h0 =>
  runs1_in n hn l Bs n₀ s J Jx hY W hA (hT.below hW) hg (hs.grown hW) h0
theorem keepSets_alloc {n₀ : Nat} {W : World} (h : n₀ ≤ W.heap.size) (o : Obj) : KeepSets n₀ W (W.alloc o) :=
  ⟨(Below.refl _ _).alloc h _, fun k _ _ hk => (Below.heap_alloc _ _ k (Array.getElem?_eq_some_iff.1 hk).1).trans hk⟩
theorem keepSets_setCell {n₀ B : Nat} {t : TypeId} {W : World} {v : Value} (hb : Boxed W B t v) (ht : t ≠ 24) (h : n₀ ≤ B) (u : Value) : KeepSets n₀ W (W.setCell ⟨B, 0, none⟩ u) :=
  ⟨(Below.refl _ _).setCell (p := ⟨B, 0, none⟩) h _, fun k c fz hk => by
    by_cases e : k = B
    · subst e; unfold Boxed at hb; rw [hb] at hk; cases hk; exact absurd rfl ht
    · rw [Below.heap_setCell _ _ _ _ e]; exact hk⟩
theorem keepSets_grown {n₀ size : Nat} {e : TypeId} {W W' : World} {v : Value} {k : Nat} {xs : List Value} (hr : W.ownsRow n₀ e size v k xs) (he : e ≠ 24) (hg : W.grownBy W' v.ownBlock) (h : n₀ ≤ W.heap.size) : KeepSets n₀ W W' :=
  ⟨(Below.refl _ _).grown hg h (fun j ej => (hr.lt j ej).1), fun j c fz hj => by
    rw [hg.block j (Array.getElem?_eq_some_iff.1 hj).1 (fun ej => ?_)]
    · exact hj
    · rcases hr.2 with ⟨rfl, _⟩ | ⟨g, cap, cur, rfl, _, hgb, _⟩
      · simp [Value.ownBlock] at ej
      · obtain rfl : j = g := by simpa [Value.ownBlock] using ej
        rw [hgb] at hj; cases hj; exact he rfl⟩
/-- A pair in a block of its own. -/
def PairAt (W : World) (b : Nat) (x : Nat × Nat) : Prop := W.heap[b]? = some (.cells #[.int .u8 x.1, .int .u8 x.2] 91 (0, 0))
theorem PairAt.cells {W : World} {b : Nat} {x : Nat × Nat} (h : PairAt W b x) : W.cell? ⟨b, 0, none⟩ = some (.int .u8 x.1) ∧ W.cell? ⟨b, 1, none⟩ = some (.int .u8 x.2) := by
  unfold PairAt at h
  simp [World.cell?, h]
theorem pairAt_own (b : Nat) (x : Nat × Nat) : Own (fun (_ : Unit) W => PairAt W b x) := fun _ W W' row hs hg hr => by
  show W'.heap[b]? = _
  have hs : W.heap[b]? = some (.cells #[.int .u8 x.1, .int .u8 x.2] 91 (0, 0)) := hs
  rw [hg.block b (Array.getElem?_eq_some_iff.1 hs).1 (fun e => ?_)]
  · exact hs
  · obtain ⟨o, ho, hc⟩ := hr b e.symm
    rw [hs] at ho; cases ho; cases hc
/-- Pairs, cell by cell. -/
def flat (l : List (Nat × Nat)) : List Value := l.flatMap (fun q => [Value.int .u8 q.1, Value.int .u8 q.2])
theorem flat_snoc (l : List (Nat × Nat)) (x : Nat × Nat) : flat (l ++ [x]) = flat l ++ [.int .u8 x.1, .int .u8 x.2] := by simp [flat]
theorem flat_length (l : List (Nat × Nat)) : (flat l).length = l.length * 2 := by
  induction l with
  | nil => rfl
  | cons q l ih => simp [flat] at ih ⊢; omega
theorem infoPair : (Tryz.prog.info? 91).map (fun i => (i.zero, i.size, i.bytes)) = some (some (.agg #[.int .u8 0, .int .u8 0]), 2, 2) := by kernel_rfl
set_option maxHeartbeats 2000000 in
theorem ranges_any (s : BitVec 256) (w : World) (hT : Tab w) :
    Calls Tryz.prog 58 #[(.agg #[.int .u64 (wd (s) 0), .int .u64 (wd (s) 1), .int .u64 (wd (s) 2), .int .u64 (wd (s) 3)])] w fun e w' => ∃ v, e = .returned v ∧ w'.ownsRow w.heap.size 91 2 v (runs s 0).length (flat (runs s 0)) ∧ Below w.heap.size w w' := by
  refine (callsIn_wide (n := 3)).1 ?_
  obtain ⟨i0, hi, hz0, hz1, hz2⟩ := info_parts infoPair
  refine callsIn_of_wp_marks Tryz.func58 rfl trivial ?_ rfl
  simp only [Tryz.ntmps58, List.size_toArray, List.length_cons, List.length_nil, Nat.reduceAdd, Nat.reduceSub, Array.replicate_succ, Array.replicate_zero, List.push_toArray, List.append_toArray, List.nil_append, List.cons_append]
  gi_wp2_with (refine ⟨trivial, ?_⟩; gi_at_call 76; refine (callsIn_wide.2 (runs_any s _)).mono ?_; rintro e w' ⟨rfl, rfl⟩)
  have bL := (Boxed.new (w.alloc (.cells #[.int .u64 (wd s 0), .int .u64 (wd s 1), .int .u64 (wd s 2), .int .u64 (wd s 3)] 24)) 89 (.slice none 0 0)).alloc (.cells #[.int .u64 (wd s 0), .int .u64 (wd s 1), .int .u64 (wd s 2), .int .u64 (wd s 3)] 24)
  have bS := SetAt.new ((w.alloc (.cells #[.int .u64 (wd s 0), .int .u64 (wd s 1), .int .u64 (wd s 2), .int .u64 (wd s 3)] 24)).alloc (.cells #[.slice none 0 0] 89)) s
  simp only [World.size_alloc] at bL bS
  have hB0 : Below w.heap.size w (((w.alloc (.cells #[.int .u64 (wd s 0), .int .u64 (wd s 1), .int .u64 (wd s 2), .int .u64 (wd s 3)] 24)).alloc (.cells #[.slice none 0 0] 89)).alloc (.cells #[.int .u64 (wd s 0), .int .u64 (wd s 1), .int .u64 (wd s 2), .int .u64 (wd s 3)] 24)) := (((Below.refl _ w).alloc (Nat.le_refl _) _).alloc (by simp) _).alloc (by simp; omega) _
  have hsz : (((w.alloc (.cells #[.int .u64 (wd s 0), .int .u64 (wd s 1), .int .u64 (wd s 2), .int .u64 (wd s 3)] 24)).alloc (.cells #[.slice none 0 0] 89)).alloc (.cells #[.int .u64 (wd s 0), .int .u64 (wd s 1), .int .u64 (wd s 2), .int .u64 (wd s 3)] 24)).heap.size = w.heap.size + 3 := by simp
  obtain ⟨W0, hW0⟩ : ∃ W0, ((w.alloc (.cells #[.int .u64 (wd s 0), .int .u64 (wd s 1), .int .u64 (wd s 2), .int .u64 (wd s 3)] 24)).alloc (.cells #[.slice none 0 0] 89)).alloc (.cells #[.int .u64 (wd s 0), .int .u64 (wd s 1), .int .u64 (wd s 2), .int .u64 (wd s 3)] 24) = W0 := ⟨_, rfl⟩
  rw [hW0] at bL bS hB0 hsz ⊢
  clear hW0
  have hT0 : Tab W0 := hT.below hB0
  refine wpIn_rangeFunc_ownH rfl (by omega) (gf := 87) (lb := #[.pointer (some ⟨w.heap.size + 1 + 1, 0, none⟩)]) rfl trivial (enters_of Tryz.func87 (by kernel_rfl) rfl)
    (runs_stops 2 (by omega) (w.heap.size + 1 + 1) w.heap.size s W0 hT0 hT.1 bS) KeepSets.trans (keepSets_b (by omega)) (Below.refl _ _) (fun _ => rfl)
    (fun pre W => (∃ v, Boxed W (w.heap.size + 1) 89 v ∧ W.ownsRow w.heap.size 91 2 v pre.length (flat pre) ∧ True) ∧ Below w.heap.size w W)
    (fun _ _ _ => False)
    (OwnFrom.and (Own.from (holdsRow_own w.heap.size (w.heap.size + 1) 89 91 2 (fun pre => pre.length) (fun pre => flat pre) (fun _ _ => True)) _) (ownFrom_below (Nat.le_refl _) (by omega)))
    (fun _ _ _ _ _ hs _ _ => hs)
    ⟨⟨_, bL, World.ownsRow_nil _ _ _ _, trivial⟩, hB0⟩
    (fun x a' W => ∃ Bx, PairAt W Bx x ∧ a' = { tmps := #[(.agg #[.int .u64 (wd (s) 0), .int .u64 (wd (s) 1), .int .u64 (wd (s) 2), .int .u64 (wd (s) 3)]), .pointer (some ⟨w.heap.size, 0, none⟩), .slice none 0 0, .pointer (some ⟨w.heap.size + 1, 0, none⟩), .pointer (some ⟨Bx, 0, none⟩), (.agg #[.int .u64 (wd (s) 0), .int .u64 (wd (s) 1), .int .u64 (wd (s) 2), .int .u64 (wd (s) 3)]), .func (.func 87) #[] #[.pointer (some ⟨w.heap.size + 1 + 1, 0, none⟩)], .agg #[.int .u8 x.1, .int .u8 x.2], undef, undef, undef, undef, undef], defers := [] })
    (fun x a' _ X Y row hs hg hr => by obtain ⟨Bx, h2, h3⟩ := hs; exact ⟨Bx, pairAt_own Bx x () X Y row h2 hg (fun r e => (hr r e).2), h3⟩)
    ?assign ?body ?done ?stop
  case assign =>
    rintro l pre x W K ⟨⟨v, bv, hr, _⟩, hB1⟩ hK
    gi_wp2
    refine hK _ _ ((KeepsOthers.alloc _ _).from _) (keepSets_alloc hB1.size _) ⟨⟨v, bv.alloc _, hr.alloc _, trivial⟩, hB1.alloc hB1.size _⟩ ⟨W.heap.size, ?_, rfl⟩
    unfold PairAt
    show (W.heap.push _)[W.heap.size]? = _
    simp
  case body =>
    rintro l pre x a' W hl ⟨r, hr⟩ ⟨⟨v, bv, hrow, _⟩, hB1⟩ ⟨Bx, hPx, rfl⟩ hlt
    obtain ⟨p0, p1⟩ := hPx.cells
    have hc := bv.cell
    have hbs := hB1.size
    gi_wp2_with (gi_at_builtin; refine wpListIn_append_own _ rfl _ _ 89 rfl w.heap.size 91 i0 (.agg #[.int .u8 0, .int .u8 0]) 2 2 Tryz.underlying89 hi hz0 hz1 hz2 rfl (by decide) _ _ _ rfl (hrow.alloc _) ⟨W.heap.size, 0, none⟩ 1 1 [.int .u8 x.1, .int .u8 x.2] rfl rfl (cell_two_new _ _ _ _) (by simp [Value.oneCell']) (by unfold maxLen; omega) (by omega) (by simp; omega) ?_; intro v' w1 hown' hgrow _; obtain ⟨g', cap', rfl⟩ := ownsRow_succ hown'; obtain ⟨hv1, hv2, hr2, hk2, hb2⟩ := bv.appended (by decide) hrow hbs (by omega) hown' hgrow; have hc1 := hv1.cell; have hf1 := hv1.frozen)
    refine ⟨hk2.from _, ?_, ⟨_, hv2, by rw [flat_snoc]; simpa using hr2, trivial⟩, hB1.trans hb2⟩
    exact ((keepSets_alloc hbs _).trans (keepSets_grown (hrow.alloc _) (by decide) hgrow (by simp; omega))).trans (keepSets_setCell hv1 (by decide) (by omega) _)
  case done =>
    rintro D ys W hD rfl ⟨⟨v, bv, hrow, _⟩, hB1⟩ hK
    have hc := bv.cell
    gi_wp2
    refine ⟨by simp, .inl ⟨_, _, rfl, run_takeDeferred hK, ?_⟩⟩
    exact ⟨_, results_tmp rfl _ _ _, v, rfl, ownsRow_putObj hrow _ hK rfl, hB1.trans (belowK_b (w := w) (Nat.le_refl _) W D _ _ (by omega) hK rfl rfl)⟩
  case stop =>
    rintro D c pre W _ _ h _
    exact h.elim
end Go.Proofs.YtkpfpegjapddfaaGreatDoor
