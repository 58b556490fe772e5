/- The contract of classes.Lows. -/
import Derived.Test.YtiikmpgadmmjeaaC8
import Derived.Test.YtiikmpgadmmjeaaC9
set_option maxRecDepth 100000
namespace Go.Proofs.Ytiikmpgadmmjeaa
open Go.RowKit Go.Shelf
attribute [local go_sem] Oper.semAt_some

/-- So many bytes, as cells, and in a block. -/
def Bys (n : Nat) (f : Nat → Nat) : Array Value := ((List.range n).map fun i => Value.int .u8 (f i : Nat)).toArray
theorem bys_size (n : Nat) (f : Nat → Nat) : (Bys n f).size = n := by simp [Bys]
theorem bys_at {n i : Nat} (f : Nat → Nat) (h : i < n) : (Bys n f)[i]? = some (.int .u8 (f i : Nat)) := by simp [Bys, h]
theorem bys_congr {n : Nat} {f g : Nat → Nat} (h : ∀ i, i < n → f i = g i) : Bys n f = Bys n g := by
  unfold Bys
  congr 1
  exact List.map_congr_left fun i hi => by rw [h i (by simpa using hi)]
theorem bys_set {n k : Nat} {f g : Nat → Nat} {v : Nat} (hk : g k = v) (h : ∀ i, i < n → i ≠ k → f i = g i) : (Bys n f).setIfInBounds k (.int .u8 (v : Nat)) = Bys n g := by
  apply Array.ext
  · simp [Bys]
  · intro i h1 h2
    have hi : i < n := by simpa [Bys] using h2
    rw [Array.getElem_setIfInBounds (by simpa using h1)]
    by_cases e : k = i
    · subst e; simp [Bys, hk]
    · rw [if_neg e]; simp [Bys, h i hi (fun x => e x.symm)]
def LBlk (w : World) (b n : Nat) (f : Nat → Nat) : Prop := w.heap[b]? = some (.cells (Bys n f) 5 (0, 0))
theorem LBlk.cell {w : World} {b n i : Nat} {f : Nat → Nat} (h : LBlk w b n f) (hi : i < n) : w.cell? ⟨b, i, none⟩ = some (.int .u8 (f i : Nat)) := by
  rw [cell_of_row w b _ _ _ _ h, bys_at f hi]
theorem LBlk.frozen {w : World} {b n i : Nat} {f : Nat → Nat} (h : LBlk w b n f) : w.frozen? ⟨b, i, none⟩ = false := frozen_row (j := i) h
theorem LBlk.lt {w : World} {b n : Nat} {f : Nat → Nat} (h : LBlk w b n f) : b < w.heap.size := lt_of_block h
theorem LBlk.below {w w' : World} {b n : Nat} {f : Nat → Nat} (h : LBlk w b n f) (hb : Below w.heap.size w w') : LBlk w' b n f := (hb.block b h.lt).trans h
theorem LBlk.congr {w : World} {b n : Nat} {f g : Nat → Nat} (h : LBlk w b n f) (hf : ∀ i, i < n → f i = g i) : LBlk w b n g := by
  unfold LBlk at *
  rw [h, bys_congr hf]
theorem LBlk.set {w : World} {b n k : Nat} {f g : Nat → Nat} {v : Nat} (h : LBlk w b n f) (hk : g k = v) (hf : ∀ i, i < n → i ≠ k → f i = g i) : LBlk (w.setCell ⟨b, k, none⟩ (.int .u8 (v : Nat))) b n g := by
  unfold LBlk
  rw [setCell_block h, bys_set hk hf]
theorem infoU8 : (Try.prog.info? 5).map (fun i => (i.zero, i.size, i.bytes)) = some (some (.int .u8 0), 1, 1) := by kernel_rfl
theorem made_bytes (n : Nat) : madeCells (Value.int .u8 0).cells n = Bys n (fun _ => 0) := by
  apply Array.ext
  · simp [Bys, size_madeCells]
  · intro i h1 h2
    simp [madeCells, Bys, Value.cells, Nat.mod_one]
theorem make_bytes {c : Int} {n : Nat} (hc : c = n) (hn : n ≤ 100000) (w : World) : (Instr.makeSlice 28 (.int .i64 c) (.int .i64 c)).run Try.prog w = .ok (.slice (some ⟨w.heap.size, 0, none⟩) n n) (w.alloc (.cells (Bys n (fun _ => 0)) 5)) := by
  subst hc
  obtain ⟨i, hi, hz, hs, hb⟩ := info_parts infoU8
  have := run_make (P := Try.prog) w 28 5 i _ Try.underlying28 hi hz .i64 .i64 n n (by omega) (Int.le_refl _) (by rw [hb]; omega) (by omega)
  rw [← made_bytes]
  simpa [hs] using this
/-- What has been written behind so many bytes. -/
def foldF (cls : Nat → Nat) (pre : List (Fin 256)) : Nat → Nat := pre.foldl (fun f b => fun k => if cls b.val = k then b.val else f k) fun _ => 0
theorem foldF_snoc (cls : Nat → Nat) (pre : List (Fin 256)) (b : Fin 256) : foldF cls (pre ++ [b]) = fun k => if cls b.val = k then b.val else foldF cls pre k := by
  unfold foldF
  rw [List.foldl_append]; rfl
theorem foldF_down (cls : Nat → Nat) : ∀ j, foldF cls (downTo j) = lowF cls j
  | 0 => rfl
  | j + 1 => by
    show foldF cls (downTo j ++ [_]) = _
    rw [foldF_snoc, foldF_down cls j]; rfl
theorem keepU_setCell {n₀ B k n : Nat} {W : World} {f : Nat → Nat} (hb : LBlk W B n f) (h : n₀ ≤ B) (u : Value) : KeepU n₀ W (W.setCell ⟨B, k, none⟩ u) :=
  ⟨(Below.refl _ _).setCell (p := ⟨B, k, none⟩) h _, fun k' c t fz ht hk => by
    by_cases e : k' = B
    · subst e
      unfold LBlk at hb
      rw [hb] at hk
      injection hk with hk
      injection hk with h1 h2 h3
      rcases ht with rfl | rfl <;> exact absurd h2 (by decide)
    · rw [Below.heap_setCell _ _ _ _ e]; exact hk⟩
theorem cells_keep {A B : World} {row : Option Nat} {b : Nat} {c : Array Value} {t : TypeId} {fz : Nat × Nat} (h : A.heap[b]? = some (.cells c t fz)) (hg : A.grownBy B row) (hr : ∀ r, row = some r → ∃ o : Obj, A.heap[r]? = some o ∧ o.isCells = false) : B.heap[b]? = some (.cells c t fz) := by
  rw [hg.block b (Array.getElem?_eq_some_iff.1 h).1 (fun e => ?_)]
  · exact h
  · obtain ⟨o, ho, hc⟩ := hr b e.symm
    rw [h] at ho; cases ho; cases hc
set_option linter.unusedSimpArgs false in
set_option maxHeartbeats 4000000 in
theorem lows_any (cls : Nat → Nat) (n : Nat) (w : World) (hc : ∀ b, b < 256 → cls b < 256) (hn : mxOf cls 256 + 1 = n) :
    Calls Try.prog 10 #[.agg (U8s cls)] w fun e w' => ∃ b, e = .returned (.slice (some ⟨b, 0, none⟩) n n) ∧ w.heap.size ≤ b ∧ Hid (LBlk w' b n (lowF cls 256)) ∧ Hid (Below w.heap.size w w') := by
  have hmx : mxOf cls 256 ≤ 255 := mx_le cls 255 256 fun i hi => by have := hc i hi; omega
  have hmw : IntKind.i64.wrap ((mxOf cls 256 : Nat) + 1 : Int) = (n : Nat) := by rw [IntKind.wrap_i64]; omega
  have HMK := Lib.hid (fun W => make_bytes (c := (n : Int)) (n := n) rfl (by omega) W)
  refine (callsIn_wide (n := 3)).1 ?_
  refine callsIn_of_wp_marks Try.func10 rfl trivial ?_ rfl
  simp only [Try.ntmps10, List.size_toArray, List.length_cons, List.length_nil, Nat.reduceAdd, Nat.reduceSub, Array.replicate_succ, Array.replicate_zero, List.push_toArray, List.append_toArray, List.nil_append, List.cons_append]
  obtain ⟨B0, hB⟩ : ∃ B, w.heap.size = B := ⟨_, rfl⟩
  have HB := Lib.hid hB
  obtain ⟨I0, hI0⟩ : ∃ I0, U8s cls = I0 := ⟨_, rfl⟩
  have HU : Hid (UBlk (w.alloc (.cells I0 24)) B0 cls) := Lib.hid (by rw [← hI0, ← hB]; exact UBlk.new w cls)
  have HMX := Lib.hid (max_any cls B0 _ HU.out)
  rw [hI0, hB]
  obtain ⟨M, hM⟩ : ∃ M, mxOf cls 256 = M := ⟨_, rfl⟩
  rw [hM] at HMX hmw
  have hmk := HMK.out
  gi_wp2_with (refine ⟨trivial, ?_⟩; first
    | (gi_at_call 25; refine (callsIn_wide.2 HMX.out).mono ?_; rintro e w' ⟨rfl, rfl⟩)
    | (gi_at_call 26; refine (callsIn_wide.2 (back_any B0 _)).mono ?_; rintro e w' ⟨rfl, rfl⟩))
  obtain ⟨W0, hW0⟩ : ∃ W0, (((w.alloc (.cells I0 24)).alloc (.cells (Bys n fun _ => 0) 5)).alloc (.cells #[.slice (some ⟨B0 + 1, 0, none⟩) n n] 28)).alloc (.cells #[.slice (some ⟨B0, 0, none⟩) 256 256] 28) = W0 := ⟨_, rfl⟩
  have hsz : W0.heap.size = B0 + 4 := by rw [← hW0]; simp [hB]
  have hU : UBlk W0 B0 cls := by
    have h1 := HU.out
    rw [← hW0]; unfold UBlk at *
    rw [heap_alloc_old _ _ (by simp; omega), heap_alloc_old _ _ (by simp; omega), heap_alloc_old _ _ (by simp; omega)]; exact h1
  have hL : LBlk W0 (B0 + 1) n fun _ => 0 := by
    rw [← hW0]; unfold LBlk
    rw [heap_alloc_old _ _ (by simp; omega), heap_alloc_old _ _ (by simp; omega)]
    have := heap_alloc_new (w.alloc (.cells I0 24)) (.cells (Bys n fun _ => 0) 5)
    rw [World.size_alloc, hB] at this; exact this
  have hX : Boxed W0 (B0 + 1 + 1) 28 (.slice (some ⟨B0 + 1, 0, none⟩) n n) := by
    rw [← hW0]; unfold Boxed
    rw [heap_alloc_old _ _ (by simp; omega)]
    have := heap_alloc_new ((w.alloc (.cells I0 24)).alloc (.cells (Bys n fun _ => 0) 5)) (.cells #[.slice (some ⟨B0 + 1, 0, none⟩) n n] 28)
    rw [World.size_alloc, World.size_alloc, hB] at this; exact this
  have hY : Boxed W0 (B0 + 1 + 1 + 1) 28 (.slice (some ⟨B0, 0, none⟩) 256 256) := by
    rw [← hW0]; unfold Boxed
    have := heap_alloc_new (((w.alloc (.cells I0 24)).alloc (.cells (Bys n fun _ => 0) 5)).alloc (.cells #[.slice (some ⟨B0 + 1, 0, none⟩) n n] 28)) (.cells #[.slice (some ⟨B0, 0, none⟩) 256 256] 28)
    rw [World.size_alloc, World.size_alloc, World.size_alloc, hB] at this; exact this
  have hB0 : Below B0 w W0 := by
    rw [← hW0, ← hB]
    exact ((((Below.refl _ w).alloc (Nat.le_refl _) _).alloc (by simp) _).alloc (by simp; omega) _).alloc (by simp; omega) _
  rw [hW0]
  clear hW0 hmk HMK HMX HU hI0
  generalize hb3 : B0 + 1 + 1 + 1 = b3 at *
  generalize hb2 : B0 + 1 + 1 = b2 at *
  generalize hb1 : B0 + 1 = b1 at *
  have HBS := Lib.hid (show b1 = B0 + 1 ∧ b2 = B0 + 2 ∧ b3 = B0 + 3 by omega)
  clear hb1 hb2 hb3
  have HCN := Lib.hid (show ∀ b, b < 256 → cls b < n from fun b hb => by have := mx_ge cls 256 b hb; omega)
  refine wpIn_rangeFunc_ownH (n := 3) rfl (by omega) (gf := 40) (lb := #[.pointer (some ⟨b3, 0, none⟩)]) rfl trivial (enters_of Try.func40 (by kernel_rfl) rfl)
    (back_stops 2 (by omega) b3 B0 B0 cls W0 hU hY) KeepU.trans (keepU_b (by omega)) (Below.refl _ _) (fun _ => rfl)
    (fun pre W => Boxed W b2 28 (.slice (some ⟨b1, 0, none⟩) n n) ∧ LBlk W b1 n (foldF cls pre) ∧ Below B0 w W)
    (fun _ _ _ => False)
    (fun s A B row hs hg hr => ⟨cells_keep hs.1 hg (fun r e => (hr r e).2), cells_keep hs.2.1 hg (fun r e => (hr r e).2), hs.2.2.grown hg (by have := hs.2.2.size; omega) (fun k hk => by have := (hr k hk).1; omega)⟩)
    (fun _ _ _ _ _ hs _ _ => hs)
    ⟨hX, hL, hB0⟩
    (fun x a' _ => a' = { tmps := #[.agg I0, .pointer (some ⟨B0, 0, none⟩), .slice none 0 0, .pointer (some ⟨b2, 0, none⟩), .int .i64 (x.val : Nat), .int .u8 (cls x.val : Nat), .slice (some ⟨B0, 0, none⟩) 256 256, .int .u8 M, .int .i64 M, .int .i64 n, .slice (some ⟨b1, 0, none⟩) n n, .slice (some ⟨B0, 0, none⟩) 256 256, .func (.func 40) #[] #[.pointer (some ⟨b3, 0, none⟩)], .int .i64 (x.val : Nat), .int .u8 (cls x.val : Nat), undef, undef, undef, undef, undef, undef], defers := [] })
    (fun x a' _ X Y row hs hg hr => hs)
    ?assign ?body ?done ?stop
  case assign =>
    rintro l pre x W K ⟨bv, hl, hb1⟩ hK
    gi_wp2
    exact hK _ _ (KeepsOthers.refl W |>.from _) ⟨Below.refl _ _, fun _ _ _ _ _ h => h⟩ ⟨bv, hl, hb1⟩ rfl
  case body =>
    rintro l pre x a' W hl ⟨r, hr⟩ ⟨bv, hrow, hb1⟩ rfl hlt
    have hc0 := bv.cell
    obtain ⟨j, hj⟩ : ∃ j, x.val = j := ⟨_, rfl⟩
    have hj256 : j < 256 := by rw [← hj]; exact x.isLt
    have hcj := HCN.out j hj256
    have hfz : W.frozen? ⟨b1, cls j, none⟩ = false := hrow.frozen
    have c1 := hrow.cell hcj
    have hwj : IntKind.u8.wrap (j : Int) = j := by rw [IntKind.wrap_u8]; omega
    have HSET := Lib.hid (hrow.set (k := cls j) (v := j) (g := foldF cls (pre ++ [x])) (by rw [foldF_snoc, hj]; simp) (fun i _ hne => by
      rw [foldF_snoc, hj]
      show _ = if cls j = i then j else _
      rw [if_neg fun e => hne e.symm]))
    have hlb : B0 ≤ b1 := by have := HBS.out; omega
    have HKU := Lib.hid (keepU_setCell hrow hlb (k := cls j) (.int .u8 (j : Nat)))
    have HBX := Lib.hid (HKU.out.box bv)
    have HBL := Lib.hid (hb1.setCell (p := ⟨b1, cls j, none⟩) hlb (.int .u8 (j : Nat)))
    have hne1 : b1 ≠ b2 := by have := HBS.out; omega
    have hcn : (cls j : Int) < (n : Int) := by omega
    rw [hj]
    clear hb1 hrow bv
    generalize cls j = q at *
    gi_wp2
    exact ⟨(KeepsOthers.setCell W _ _).from _, HKU.out, ⟨HBX.out, HSET.out, HBL.out⟩⟩
  case done =>
    rintro D ys W hD rfl ⟨bv, hrow, hb1⟩ hK
    have hc0 := bv.cell
    gi_wp2
    refine ⟨by simp, .inl ⟨_, _, rfl, run_takeDeferred hK, ?_⟩⟩
    have hne : b1 ≠ D := fun e => by
      subst e
      unfold LBlk at hrow
      rw [hK] at hrow; cases hrow
    refine ⟨_, results_tmp rfl _ _ _, b1, rfl, by have := HBS.out; omega, Lib.hid ?_, Lib.hid (hb1.trans (belowK_b (w := w) (by omega) W D _ _ (by omega) hK rfl rfl))⟩
    unfold LBlk
    rw [World.putObj_heap_other hne, ← foldF_down]
    exact hrow
  case stop =>
    rintro D c pre W _ _ h _
    exact h.elim
end Go.Proofs.Ytiikmpgadmmjeaa
