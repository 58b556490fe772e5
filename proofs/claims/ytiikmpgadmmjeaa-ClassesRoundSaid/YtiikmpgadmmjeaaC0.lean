/- Rows of 256 bytes and of 64 numbers, as values and as they lie. -/
import Derived.Test.YtiikmpgadmmjeaaXj
set_option maxRecDepth 100000
namespace Go.Proofs.Ytiikmpgadmmjeaa
open Go.RowKit

/-- A number for each byte, as cells. -/
def U8s (f : Nat → Nat) : Array Value := ((List.range 256).map fun i => Value.int .u8 (f i : Nat)).toArray
theorem u8c_at {i : Nat} (f : Nat → Nat) (h : i < 256) : (U8s f)[i]? = some (.int .u8 (f i : Nat)) := by simp [U8s, h]
theorem u8c_size (f : Nat → Nat) : (U8s f).size = 256 := by simp [U8s]
theorem u8c_congr {f g : Nat → Nat} (h : ∀ i, i < 256 → f i = g i) : U8s f = U8s g := by
  unfold U8s
  congr 1
  exact List.map_congr_left fun i hi => by rw [h i (by simpa using hi)]
theorem u8c_set {k : Nat} {f g : Nat → Nat} {v : Nat} (hk : g k = v) (h : ∀ i, i < 256 → i ≠ k → f i = g i) : (U8s f).setIfInBounds k (.int .u8 (v : Nat)) = U8s g := by
  apply Array.ext
  · simp [U8s]
  · intro i h1 h2
    have hi : i < 256 := by simpa [U8s] using h2
    rw [Array.getElem_setIfInBounds (by simpa using h1)]
    by_cases e : k = i
    · subst e; simp [U8s, hk]
    · rw [if_neg e]; simp [U8s, h i hi (fun x => e x.symm)]
/-- A block holds them. -/
def UBlk (w : World) (b : Nat) (f : Nat → Nat) : Prop := w.heap[b]? = some (.cells (U8s f) 24 (0, 0))
theorem UBlk.cell {w : World} {b i : Nat} {f : Nat → Nat} (h : UBlk w b f) (hi : i < 256) : w.cell? ⟨b, i, none⟩ = some (.int .u8 (f i : Nat)) := by
  rw [cell_of_row w b _ _ _ _ h, u8c_at f hi]
theorem UBlk.lt {w : World} {b : Nat} {f : Nat → Nat} (h : UBlk w b f) : b < w.heap.size := lt_of_block h
theorem UBlk.below {w w' : World} {b : Nat} {f : Nat → Nat} (h : UBlk w b f) (hb : Below w.heap.size w w') : UBlk w' b f := (hb.block b h.lt).trans h
theorem UBlk.old {w w' : World} {b N : Nat} {f : Nat → Nat} (h : UBlk w b f) (hb : Below N w w') (hN : b < N) : UBlk w' b f := (hb.block b hN).trans h
theorem UBlk.other {w : World} {b : Nat} {f : Nat → Nat} (h : UBlk w b f) {a : Addr} (ha : b ≠ a.block) (u : Value) : UBlk (w.setCell a u) b f := by
  unfold UBlk
  rw [Below.heap_setCell _ _ _ _ ha]; exact h
theorem UBlk.congr {w : World} {b : Nat} {f g : Nat → Nat} (h : UBlk w b f) (hf : ∀ i, i < 256 → f i = g i) : UBlk w b g := by
  unfold UBlk at *
  rw [h, u8c_congr hf]
theorem UBlk.set {w : World} {b k : Nat} {f g : Nat → Nat} {v : Nat} (h : UBlk w b f) (hk : g k = v) (hf : ∀ i, i < 256 → i ≠ k → f i = g i) : UBlk (w.setCell ⟨b, k, none⟩ (.int .u8 (v : Nat))) b g := by
  unfold UBlk
  rw [setCell_block h, u8c_set hk hf]
theorem UBlk.frozen {w : World} {b i : Nat} {f : Nat → Nat} (h : UBlk w b f) : w.frozen? ⟨b, i, none⟩ = false := frozen_row (j := i) h
theorem UBlk.new (w : World) (f : Nat → Nat) : UBlk (w.alloc (.cells (U8s f) 24)) w.heap.size f := heap_alloc_new w _
theorem infoU8s : (Try.prog.info? 24).map (·.size) = some 256 := by kernel_rfl
theorem load_u8c {w : World} {b : Nat} {f : Nat → Nat} (h : UBlk w b f) : (loadVar 24 ⟨b, 0, none⟩).run Try.prog w = .ok (.agg (U8s f)) w :=
  run_loadVar_row w b _ _ _ _ _ h Try.underlying24 rfl (by rw [infoU8s, u8c_size])
theorem store_u8c {w : World} {b : Nat} {f g : Nat → Nat} (h : UBlk w b f) : (storeVar 24 ⟨b, 0, none⟩ (.agg (U8s g))).run Try.prog w = .ok () (w.setRow b (U8s g)) :=
  run_storeVar_row w b _ _ _ _ h (by rw [infoU8s, u8c_size]) (by rw [u8c_size, u8c_size]) (Array.all_eq_true_iff_forall_mem.2 fun v hv => by
    simp only [U8s, List.mem_toArray, List.mem_map] at hv
    obtain ⟨i, _, rfl⟩ := hv; rfl)
theorem UBlk.setRow {w : World} {b : Nat} {f g : Nat → Nat} (h : UBlk w b f) : UBlk (w.setRow b (U8s g)) b g := by
  unfold UBlk at *
  show (w.heap.modify b _)[b]? = _
  rw [Array.getElem?_modify, if_pos rfl, h]
  rfl
theorem wpList_load_u8c {ops : Array Oper} {rest : List Oper} {op : Oper} {a : Act} {w : World} {Q : Exit → Act → World → Prop} (b : Nat) (f : Nat → Nat) (hb : UBlk w b f) (hgd : op.guard = none) (x : Operand) (ho : op.op = .load 24 x)
    (hx : a.eval x = .pointer (some ⟨b, 0, none⟩)) (h : wpList Try.prog ops Q rest (a.put op.dst (.agg (U8s f))) w) : wpList Try.prog ops Q (op :: rest) a w :=
  wpList_plain hgd fun _ hK => by
    unfold Oper.wp execOp
    simp only [ho, hx, Instr.loadAt, Instr.sureAddr, Sem.run_bind, Sem.run_pure, Result.andThen_ok, load_u8c hb]
    exact hK _ _ h
theorem wpList_store_u8c {ops : Array Oper} {rest : List Oper} {op : Oper} {a : Act} {w : World} {Q : Exit → Act → World → Prop} (b : Nat) (f g : Nat → Nat) (hb : UBlk w b f) (hgd : op.guard = none) (x y : Operand) (ho : op.op = .store 24 x y)
    (hx : a.eval x = .pointer (some ⟨b, 0, none⟩)) (hy : a.eval y = .agg (U8s g)) (h : wpList Try.prog ops Q rest (a.put op.dst undef) (w.setRow b (U8s g))) : wpList Try.prog ops Q (op :: rest) a w :=
  wpList_plain hgd fun _ hK => by
    unfold Oper.wp execOp
    simp only [ho, hx, hy, Instr.storeAt, Instr.sureAddr, Sem.run_bind, Sem.run_pure, Result.andThen_ok, store_u8c hb]
    exact hK _ _ h
/-- 64 numbers, as cells. -/
def Cols (f : Nat → Int) : Array Value := ((List.range 64).map fun i => Value.int .i64 (f i)).toArray
theorem cols_at {i : Nat} (f : Nat → Int) (h : i < 64) : (Cols f)[i]? = some (.int .i64 (f i)) := by simp [Cols, h]
theorem cols_size (f : Nat → Int) : (Cols f).size = 64 := by simp [Cols]
theorem cols_congr {f g : Nat → Int} (h : ∀ i, i < 64 → f i = g i) : Cols f = Cols g := by
  unfold Cols
  congr 1
  exact List.map_congr_left fun i hi => by rw [h i (by simpa using hi)]
theorem cols_set {k : Nat} {f g : Nat → Int} {v : Int} (hk : g k = v) (h : ∀ i, i < 64 → i ≠ k → f i = g i) : (Cols f).setIfInBounds k (.int .i64 v) = Cols g := by
  apply Array.ext
  · simp [Cols]
  · intro i h1 h2
    have hi : i < 64 := by simpa [Cols] using h2
    rw [Array.getElem_setIfInBounds (by simpa using h1)]
    by_cases e : k = i
    · subst e; simp [Cols, hk]
    · rw [if_neg e]; simp [Cols, h i hi (fun x => e x.symm)]
/-- A block holds them. -/
def CBlk (w : World) (b : Nat) (f : Nat → Int) : Prop := w.heap[b]? = some (.cells (Cols f) 70 (0, 0))
theorem CBlk.cell {w : World} {b i : Nat} {f : Nat → Int} (h : CBlk w b f) (hi : i < 64) : w.cell? ⟨b, i, none⟩ = some (.int .i64 (f i)) := by
  rw [cell_of_row w b _ _ _ _ h, cols_at f hi]
theorem CBlk.lt {w : World} {b : Nat} {f : Nat → Int} (h : CBlk w b f) : b < w.heap.size := lt_of_block h
theorem CBlk.below {w w' : World} {b : Nat} {f : Nat → Int} (h : CBlk w b f) (hb : Below w.heap.size w w') : CBlk w' b f := (hb.block b h.lt).trans h
theorem CBlk.other {w : World} {b : Nat} {f : Nat → Int} (h : CBlk w b f) {a : Addr} (ha : b ≠ a.block) (u : Value) : CBlk (w.setCell a u) b f := by
  unfold CBlk
  rw [Below.heap_setCell _ _ _ _ ha]; exact h
theorem CBlk.congr {w : World} {b : Nat} {f g : Nat → Int} (h : CBlk w b f) (hf : ∀ i, i < 64 → f i = g i) : CBlk w b g := by
  unfold CBlk at *
  rw [h, cols_congr hf]
theorem CBlk.set {w : World} {b k : Nat} {f g : Nat → Int} {v : Int} (h : CBlk w b f) (hk : g k = v) (hf : ∀ i, i < 64 → i ≠ k → f i = g i) : CBlk (w.setCell ⟨b, k, none⟩ (.int .i64 v)) b g := by
  unfold CBlk
  rw [setCell_block h, cols_set hk hf]
theorem CBlk.frozen {w : World} {b i : Nat} {f : Nat → Int} (h : CBlk w b f) : w.frozen? ⟨b, i, none⟩ = false := frozen_row (j := i) h
theorem infoCols : (Try.prog.info? 70).map (·.size) = some 64 := by kernel_rfl
theorem load_cols {w : World} {b : Nat} {f : Nat → Int} (h : CBlk w b f) : (loadVar 70 ⟨b, 0, none⟩).run Try.prog w = .ok (.agg (Cols f)) w :=
  run_loadVar_row w b _ _ _ _ _ h Try.underlying70 rfl (by rw [infoCols, cols_size])
theorem store_cols {w : World} {b : Nat} {f g : Nat → Int} (h : CBlk w b f) : (storeVar 70 ⟨b, 0, none⟩ (.agg (Cols g))).run Try.prog w = .ok () (w.setRow b (Cols g)) :=
  run_storeVar_row w b _ _ _ _ h (by rw [infoCols, cols_size]) (by rw [cols_size, cols_size]) (Array.all_eq_true_iff_forall_mem.2 fun v hv => by
    simp only [Cols, List.mem_toArray, List.mem_map] at hv
    obtain ⟨i, _, rfl⟩ := hv; rfl)
theorem CBlk.setRow {w : World} {b : Nat} {f g : Nat → Int} (h : CBlk w b f) : CBlk (w.setRow b (Cols g)) b g := by
  unfold CBlk at *
  show (w.heap.modify b _)[b]? = _
  rw [Array.getElem?_modify, if_pos rfl, h]
  rfl
theorem wpList_load_cols {ops : Array Oper} {rest : List Oper} {op : Oper} {a : Act} {w : World} {Q : Exit → Act → World → Prop} (b : Nat) (f : Nat → Int) (hb : CBlk w b f) (hgd : op.guard = none) (x : Operand) (ho : op.op = .load 70 x)
    (hx : a.eval x = .pointer (some ⟨b, 0, none⟩)) (h : wpList Try.prog ops Q rest (a.put op.dst (.agg (Cols f))) w) : wpList Try.prog ops Q (op :: rest) a w :=
  wpList_plain hgd fun _ hK => by
    unfold Oper.wp execOp
    simp only [ho, hx, Instr.loadAt, Instr.sureAddr, Sem.run_bind, Sem.run_pure, Result.andThen_ok, load_cols hb]
    exact hK _ _ h
theorem wpList_store_cols {ops : Array Oper} {rest : List Oper} {op : Oper} {a : Act} {w : World} {Q : Exit → Act → World → Prop} (b : Nat) (f g : Nat → Int) (hb : CBlk w b f) (hgd : op.guard = none) (x y : Operand) (ho : op.op = .store 70 x y)
    (hx : a.eval x = .pointer (some ⟨b, 0, none⟩)) (hy : a.eval y = .agg (Cols g)) (h : wpList Try.prog ops Q rest (a.put op.dst undef) (w.setRow b (Cols g))) : wpList Try.prog ops Q (op :: rest) a w :=
  wpList_plain hgd fun _ hK => by
    unfold Oper.wp execOp
    simp only [ho, hx, hy, Instr.storeAt, Instr.sureAddr, Sem.run_bind, Sem.run_pure, Result.andThen_ok, store_cols hb]
    exact hK _ _ h
/-- What a new variable of these types holds. -/
theorem zero_u8s (w : World) : (zeroValue 24).run Try.prog w = .ok (.agg (U8s fun _ => 0)) w := by kernel_rfl
theorem zero_i64s (w : World) : (zeroValue 64).run Try.prog w = .ok (.agg (Ints fun _ => 0)) w := by kernel_rfl
theorem zero_cols (w : World) : (zeroValue 70).run Try.prog w = .ok (.agg (Cols fun _ => 0)) w := by kernel_rfl
end Go.Proofs.Ytiikmpgadmmjeaa
