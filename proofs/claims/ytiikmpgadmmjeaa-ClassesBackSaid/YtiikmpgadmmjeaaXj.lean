/- The contract of dfa.Arcs. -/
import Derived.Test.YtiikmpgadmmjeaaXi
import Derived.WalkSmall
set_option maxRecDepth 100000
namespace Go.Proofs.Ytiikmpgadmmjeaa
open Go.RowKit Go.Shelf
attribute [local go_sem] Oper.semAt_some

theorem aruns_stops (n : Nat) (hn : 1 ≤ n) (Bs n₀ : Nat) (f : Nat → Int) (w : World) (hs : IBlk w Bs f) :
    SeqStopsK Fence.wide n Try.prog 43 #[.pointer (some ⟨Bs, 0, none⟩)] (fun x : Arc3 => #[arcV x]) (KeepInts n₀) (fun ys => upA ys = arcsS f) (fun _ => True) 256 w := fun l J Jx W hW hA _ hY h0 => by
  refine (aruns1_in n hn l Bs n₀ f J Jx hY W hA (hs.below hW) h0).mono ?_
  rintro e W' ⟨h1, h2⟩
  exact ⟨h1, h2.imp_right fun ⟨pre, h⟩ => ⟨pre, trivial, h⟩⟩
theorem keepInts_alloc {n₀ : Nat} {W : World} (h : n₀ ≤ W.heap.size) (o : Obj) : KeepInts n₀ W (W.alloc o) :=
  ⟨(Below.refl _ _).alloc h _, fun k _ _ hk => (Below.heap_alloc _ _ k (Array.getElem?_eq_some_iff.1 hk).1).trans hk⟩
theorem keepInts_setCell {n₀ B : Nat} {t : TypeId} {W : World} {v : Value} (hb : Boxed W B t v) (ht : t ≠ 64) (h : n₀ ≤ B) (u : Value) : KeepInts n₀ W (W.setCell ⟨B, 0, none⟩ u) :=
  ⟨(Below.refl _ _).setCell (p := ⟨B, 0, none⟩) h _, fun k c fz hk => by
    by_cases e : k = B
    · subst e; unfold Boxed at hb; rw [hb] at hk; cases hk; exact absurd rfl ht
    · rw [Below.heap_setCell _ _ _ _ e]; exact hk⟩
theorem keepInts_grown {n₀ size : Nat} {e : TypeId} {W W' : World} {v : Value} {k : Nat} {xs : List Value} (hr : W.ownsRow n₀ e size v k xs) (he : e ≠ 64) (hg : W.grownBy W' v.ownBlock) (h : n₀ ≤ W.heap.size) : KeepInts n₀ W W' :=
  ⟨(Below.refl _ _).grown hg h (fun j ej => (hr.lt j ej).1), fun j c fz hj => by
    rw [hg.block j (Array.getElem?_eq_some_iff.1 hj).1 (fun ej => ?_)]
    · exact hj
    · rcases hr.2 with ⟨rfl, _⟩ | ⟨g, cap, cur, rfl, _, hgb, _⟩
      · simp [Value.ownBlock] at ej
      · obtain rfl : j = g := by simpa [Value.ownBlock] using ej
        rw [hgb] at hj; cases hj; exact he rfl⟩
theorem ablk_own (b : Nat) (x : Arc3) : Go.Own (fun (_ : Unit) W => ABlk W b x) := fun _ W W' row hs hg hr => by
  show W'.heap[b]? = _
  have hs : W.heap[b]? = some (.cells #[.int .u8 x.lo, .int .u8 x.hi, .int .i64 x.dest] 50 (0, 0)) := hs
  rw [hg.block b (Array.getElem?_eq_some_iff.1 hs).1 (fun e => ?_)]
  · exact hs
  · obtain ⟨o, ho, hc⟩ := hr b e.symm
    rw [hs] at ho; cases ho; cases hc
theorem upA_len (P : List Arc3) : (upA P).length ≤ P.length := List.length_filter_le _ _
theorem wpIn_load_row {n : Nat} {op : Oper} {a : Act} {W : World} {K : Act → World → Prop} {Q : Exit → Act → World → Prop} {b : Nat} {v : Value} (hld : (loadVar 64 ⟨b, 0, none⟩).run Try.prog W = .ok v W) (x : Operand) (ho : op.op = .load 64 x)
    (hx : a.eval x = .pointer (some ⟨b, 0, none⟩)) (h : K (a.put op.dst v) W) : Oper.wpIn Fence.wide n Try.prog op a W K Q := by
  refine ⟨fun _ _ => trivial, ?_⟩
  rw [Oper.semAt_plain Fence.wide _ _ (by rw [ho]; intro c hc; cases hc)]
  unfold execOp
  simp only [ho, hx, Instr.loadAt, Instr.sureAddr, Sem.run_bind, Sem.run_pure, Result.andThen_ok, hld]
  exact h
set_option linter.unusedSimpArgs false in
set_option maxHeartbeats 4000000 in
theorem darcs_any (f : Nat → Int) (w : World) :
    Calls Try.prog 35 #[.agg (Ints f)] w fun e w' => ∃ v, e = .returned v ∧ Hid (w'.ownsRow w.heap.size 50 3 v (arcsS f).length (flatA (arcsS f))) ∧ Hid (Below w.heap.size w w') := by
  refine (callsIn_wide (n := 3)).1 ?_
  obtain ⟨i0, hi, hz0, hz1, hz2⟩ := info_parts infoArc
  refine callsIn_of_wp_marks Try.func35 rfl trivial ?_ rfl
  simp only [Try.ntmps35, List.size_toArray, List.length_cons, List.length_nil, Nat.reduceAdd, Nat.reduceSub, Array.replicate_succ, Array.replicate_zero, List.push_toArray, List.append_toArray, List.nil_append, List.cons_append]
  have hld : ∀ W : World, IBlk W w.heap.size f → (loadVar 64 ⟨w.heap.size, 0, none⟩).run Try.prog W = .ok (.agg (Ints f)) W := fun W h => load_ints h
  have hl1 := hld ((w.alloc (.cells (Ints f) 64)).alloc (.cells #[.slice none 0 0] 46)) (by
    unfold IBlk
    rw [heap_alloc_old _ _ (by simp)]; exact heap_alloc_new w _)
  obtain ⟨I9, hI9⟩ : ∃ I9, Ints f = I9 := ⟨_, rfl⟩
  rw [hI9] at hl1 ⊢
  gi_wp2
  refine wpIn_load_row hl1 _ rfl rfl ?_
  have HAR : ∀ W, Calls Try.prog 42 #[.agg I9] W fun e w' => e = .returned (.func (.func 43) #[] #[.pointer (some ⟨W.heap.size, 0, none⟩)]) ∧ w' = W.alloc (.cells I9 64) := fun W => by rw [← hI9]; exact aruns_any f W
  have bL := (Boxed.new (w.alloc (.cells I9 64)) 46 (.slice none 0 0)).alloc (.cells I9 64)
  have bS : IBlk (((w.alloc (.cells I9 64)).alloc (.cells #[.slice none 0 0] 46)).alloc (.cells I9 64)) (w.heap.size + 1 + 1) f := by
    have h8 := heap_alloc_new ((w.alloc (.cells I9 64)).alloc (.cells #[.slice none 0 0] 46)) (.cells I9 64)
    have h9 : ((w.alloc (.cells I9 64)).alloc (.cells #[.slice none 0 0] 46)).heap.size = w.heap.size + 1 + 1 := by simp
    rw [h9] at h8
    unfold IBlk
    rw [hI9]; exact h8
  clear hI9 hld
  gi_wp2_with (refine ⟨trivial, ?_⟩; gi_at_call 42; refine (callsIn_wide.2 (HAR _)).mono ?_; rintro e w' ⟨rfl, rfl⟩)
  clear hl1 HAR
  simp only [World.size_alloc] at bL
  have hB0 : Below w.heap.size w (((w.alloc (.cells I9 64)).alloc (.cells #[.slice none 0 0] 46)).alloc (.cells I9 64)) := (((Below.refl _ w).alloc (Nat.le_refl _) _).alloc (by simp) _).alloc (by simp; omega) _
  have hsz : (((w.alloc (.cells I9 64)).alloc (.cells #[.slice none 0 0] 46)).alloc (.cells I9 64)).heap.size = w.heap.size + 3 := by simp
  obtain ⟨W0, hW0⟩ : ∃ W0, ((w.alloc (.cells I9 64)).alloc (.cells #[.slice none 0 0] 46)).alloc (.cells I9 64) = W0 := ⟨_, rfl⟩
  rw [hW0] at bL bS hB0 hsz ⊢
  clear hW0
  refine wpIn_rangeFunc_ownH rfl (by omega) (gf := 43) (lb := #[.pointer (some ⟨w.heap.size + 1 + 1, 0, none⟩)]) rfl trivial (enters_of Try.func43 (by kernel_rfl) rfl)
    (aruns_stops 2 (by omega) (w.heap.size + 1 + 1) w.heap.size f W0 bS) KeepInts.trans (keepInts_b (by omega)) (Below.refl _ _) (fun _ => rfl)
    (fun pre W => (∃ v, Boxed W (w.heap.size + 1) 46 v ∧ W.ownsRow w.heap.size 50 3 v (upA pre).length (flatA (upA pre)) ∧ True) ∧ Below w.heap.size w W)
    (fun _ _ _ => False)
    (OwnFrom.and (Go.Own.from (holdsRow_own w.heap.size (w.heap.size + 1) 46 50 3 (fun pre => (upA pre).length) (fun pre => flatA (upA pre)) (fun _ _ => True)) _) (ownFrom_below (Nat.le_refl _) (by omega)))
    (fun _ _ _ _ _ hs _ _ => hs)
    ⟨⟨_, bL, World.ownsRow_nil _ _ _ _, trivial⟩, hB0⟩
    (fun x a' W => ∃ Bx, ABlk W Bx x ∧ a' = { tmps := #[.agg I9, .pointer (some ⟨w.heap.size, 0, none⟩), .slice none 0 0, .pointer (some ⟨w.heap.size + 1, 0, none⟩), .pointer (some ⟨Bx, 0, none⟩), .agg I9, .func (.func 43) #[] #[.pointer (some ⟨w.heap.size + 1 + 1, 0, none⟩)], arcV x, undef, undef, undef, undef, undef, undef, undef, undef], defers := [] })
    (fun x a' _ X Y row hs hg hr => by obtain ⟨Bx, h2, h3⟩ := hs; exact ⟨Bx, ablk_own Bx x () X Y row h2 hg (fun r e => (hr r e).2), h3⟩)
    ?assign ?body ?done ?stop
  case assign =>
    rintro l pre x W K ⟨⟨v, bv, hr, _⟩, hB1⟩ hK
    dsimp only [arcV]
    gi_wp2
    refine hK _ _ ((KeepsOthers.alloc _ _).from _) (keepInts_alloc hB1.size _) ⟨⟨v, bv.alloc _, hr.alloc _, trivial⟩, hB1.alloc hB1.size _⟩ ⟨W.heap.size, ?_, rfl⟩
    exact heap_alloc_new W _
  case body =>
    rintro l pre x a' W hl ⟨r, hr⟩ ⟨⟨v, bv, hrow, _⟩, hB1⟩ ⟨Bx, hPx, rfl⟩ hlt
    obtain ⟨p0, p1, p2⟩ := hPx.cells
    have hc := bv.cell
    have hbs := hB1.size
    have hlu := upA_len pre
    have hsn := upA_snoc pre x
    dsimp only [arcV]
    by_cases hx : 0 ≤ x.dest
    · have hd : decide (x.dest ≥ 0) = true := decide_eq_true hx
      rw [if_pos hx] at hsn
      gi_wp2_with (gi_at_builtin; refine wpListIn_append_own _ rfl _ _ 46 rfl w.heap.size 50 i0 (.agg #[.int .u8 0, .int .u8 0, .int .i64 0]) 3 16 Try.underlying46 hi hz0 hz1 hz2 rfl (by decide) _ _ _ rfl (hrow.alloc _) ⟨W.heap.size, 0, none⟩ 1 1 [.int .u8 x.lo, .int .u8 x.hi, .int .i64 x.dest] rfl rfl (news_in (cs := #[.int .u8 x.lo, .int .u8 x.hi, .int .i64 x.dest]) (heap_alloc_new W _)) (by simp [Value.oneCell']) (by unfold maxLen; omega) (by omega) (by simp; omega) ?_; intro v' w1 hown' hgrow _; obtain ⟨g', cap', rfl⟩ := ownsRow_succ hown'; obtain ⟨hv1, hv2, hr2, hk2, hb2⟩ := bv.appended (by decide) hrow hbs (by omega) hown' hgrow; have hc1 := hv1.cell; have hf1 := hv1.frozen)
      refine ⟨hk2.from _, ?_, ⟨_, hv2, by rw [hsn, flatA_snoc, List.length_append, List.length_singleton]; exact hr2, trivial⟩, hB1.trans hb2⟩
      exact ((keepInts_alloc hbs _).trans (keepInts_grown (hrow.alloc _) (by decide) hgrow (by simp; omega))).trans (keepInts_setCell hv1 (by decide) (by omega) _)
    · have hd : decide (x.dest ≥ 0) = false := decide_eq_false hx
      rw [if_neg hx, List.append_nil] at hsn
      gi_wp2
      refine ⟨(KeepsOthers.refl W).from _, ?_, ⟨v, bv, by rw [hsn]; exact hrow⟩, hB1⟩
      exact ⟨Below.refl _ _, fun _ _ _ h => h⟩
  case done =>
    rintro D ys W hD hys ⟨⟨v, bv, hrow, _⟩, hB1⟩ hK
    have hc := bv.cell
    gi_wp2
    rw [hys] at hrow
    refine ⟨by simp, .inl ⟨_, _, rfl, run_takeDeferred hK, ?_⟩⟩
    exact ⟨_, results_tmp rfl _ _ _, v, rfl, Lib.hid (ownsRow_putObj hrow _ hK rfl), Lib.hid (hB1.trans (belowK_b (w := w) (Nat.le_refl _) W D _ _ (by omega) hK rfl rfl))⟩
  case stop =>
    rintro D c pre W _ _ h _
    exact h.elim
end Go.Proofs.Ytiikmpgadmmjeaa
