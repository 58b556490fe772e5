/- Contract: where a state leads by each byte. -/
import Derived.Test.YtiikmpgadmmjeaaXI
import Derived.Deep.MidRow
import Derived.Laws.CopyOwn
set_option maxRecDepth 100000
namespace Go.Proofs.Ytiikmpgadmmjeaa
open Go.RowKit

theorem ints_congr {f g : Nat → Int} (h : ∀ i, i < 256 → f i = g i) : Ints f = Ints g := by
  unfold Ints
  congr 1
  exact List.map_congr_left fun i hi => by rw [h i (by simpa using hi)]
theorem ints_set {k : Nat} {f g : Nat → Int} {v : Int} (hk : g k = v) (h : ∀ i, i < 256 → i ≠ k → f i = g i) : (Ints f).setIfInBounds k (.int .i64 v) = Ints g := by
  apply Array.ext
  · simp [Ints]
  · intro i h1 h2
    have hi : i < 256 := by simpa [Ints] using h2
    rw [Array.getElem_setIfInBounds (by simpa using h1)]
    by_cases e : k = i
    · subst e; simp [Ints, hk]
    · rw [if_neg e]; simp [Ints, h i hi (fun x => e x.symm)]
theorem IBlk.congr {w : World} {b : Nat} {f g : Nat → Int} (h : IBlk w b f) (hf : ∀ i, i < 256 → f i = g i) : IBlk w b g := by
  unfold IBlk at *
  rw [h, ints_congr hf]
theorem IBlk.set {w : World} {b k : Nat} {f g : Nat → Int} {v : Int} (h : IBlk w b f) (hk : g k = v) (hf : ∀ i, i < 256 → i ≠ k → f i = g i) : IBlk (w.setCell ⟨b, k, none⟩ (.int .i64 v)) b g := by
  unfold IBlk
  rw [setCell_block h, ints_set hk hf]
theorem IBlk.frozen {w : World} {b i : Nat} {f : Nat → Int} (h : IBlk w b f) : w.frozen? ⟨b, i, none⟩ = false := frozen_row (j := i) h
theorem infoInts : (Try.prog.info? 64).map (·.size) = some 256 := by kernel_rfl
theorem ints_size (f : Nat → Int) : (Ints f).size = 256 := by simp [Ints]
theorem load_ints {w : World} {b : Nat} {f : Nat → Int} (h : IBlk w b f) : (loadVar 64 ⟨b, 0, none⟩).run Try.prog w = .ok (.agg (Ints f)) w :=
  run_loadVar_row w b _ _ _ _ _ h Try.underlying64 rfl (by rw [infoInts, ints_size])
theorem store_ints {w : World} {b : Nat} {f g : Nat → Int} (h : IBlk w b f) : (storeVar 64 ⟨b, 0, none⟩ (.agg (Ints g))).run Try.prog w = .ok () (w.setRow b (Ints g)) :=
  run_storeVar_row w b _ _ _ _ h (by rw [infoInts, ints_size]) (by rw [ints_size, ints_size]) (Array.all_eq_true_iff_forall_mem.2 fun v hv => by
    simp only [Ints, List.mem_toArray, List.mem_map] at hv
    obtain ⟨i, _, rfl⟩ := hv; rfl)
theorem IBlk.setRow {w : World} {b : Nat} {f g : Nat → Int} (h : IBlk w b f) : IBlk (w.setRow b (Ints g)) b g := by
  unfold IBlk at *
  show (w.heap.modify b _)[b]? = _
  rw [Array.getElem?_modify, if_pos rfl, h]
  rfl
theorem wpList_load_ints {ops : Array Oper} {rest : List Oper} {op : Oper} {a : Act} {w : World} {Q : Exit → Act → World → Prop} (b : Nat) (f : Nat → Int) (hb : IBlk w b f) (hgd : op.guard = none) (x : Operand) (ho : op.op = .load 64 x)
    (hx : a.eval x = .pointer (some ⟨b, 0, none⟩)) (h : wpList Try.prog ops Q rest (a.put op.dst (.agg (Ints f))) w) : wpList Try.prog ops Q (op :: rest) a w :=
  wpList_plain hgd fun _ hK => by
    unfold Oper.wp execOp
    simp only [ho, hx, Instr.loadAt, Instr.sureAddr, Sem.run_bind, Sem.run_pure, Result.andThen_ok, load_ints hb]
    exact hK _ _ h
theorem wpList_store_ints {ops : Array Oper} {rest : List Oper} {op : Oper} {a : Act} {w : World} {Q : Exit → Act → World → Prop} (b : Nat) (f g : Nat → Int) (hb : IBlk w b f) (hgd : op.guard = none) (x y : Operand) (ho : op.op = .store 64 x y)
    (hx : a.eval x = .pointer (some ⟨b, 0, none⟩)) (hy : a.eval y = .agg (Ints g)) (h : wpList Try.prog ops Q rest (a.put op.dst undef) (w.setRow b (Ints g))) : wpList Try.prog ops Q (op :: rest) a w :=
  wpList_plain hgd fun _ hK => by
    unfold Oper.wp execOp
    simp only [ho, hx, hy, Instr.storeAt, Instr.sureAddr, Sem.run_bind, Sem.run_pure, Result.andThen_ok, store_ints hb]
    exact hK _ _ h
/-- An arc in a block of its own. -/
def ABlk (w : World) (b : Nat) (a : Arc3) : Prop := w.heap[b]? = some (.cells #[.int .u8 a.lo, .int .u8 a.hi, .int .i64 a.dest] 50 (0, 0))
theorem ABlk.cells {w : World} {b : Nat} {a : Arc3} (h : ABlk w b a) : w.cell? ⟨b, 0, none⟩ = some (.int .u8 a.lo) ∧ w.cell? ⟨b, 1, none⟩ = some (.int .u8 a.hi) ∧ w.cell? ⟨b, 2, none⟩ = some (.int .i64 a.dest) := by
  unfold ABlk at h
  simp [World.cell?, h]
theorem ABlk.other {w : World} {b : Nat} {x : Arc3} (h : ABlk w b x) {a : Addr} (ha : b ≠ a.block) (u : Value) : ABlk (w.setCell a u) b x := by
  unfold ABlk
  rw [Below.heap_setCell _ _ _ _ ha]; exact h
theorem ABlk.lt {w : World} {b : Nat} {x : Arc3} (h : ABlk w b x) : b < w.heap.size := lt_of_block h
/-- One arc more. -/
def putArc (f : Nat → Int) (a : Arc3) : Nat → Int := fun b => if a.has b then a.dest else f b
def putArcs (l : List Arc3) : Nat → Int := l.foldl putArc fun _ => -1
theorem putArcs_take {l : List Arc3} {i : Nat} (h : i < l.length) : putArcs (l.take (i + 1)) = putArc (putArcs (l.take i)) l[i] := by
  unfold putArcs
  rw [List.take_succ_eq_append_getElem h, List.foldl_append]; rfl
theorem firstTo_append (l r : List Arc3) (b : Nat) (h : ∀ a ∈ l, a.has b = false) : firstTo (l ++ r) b = firstTo r b := by
  induction l with
  | nil => rfl
  | cons a l ih =>
    show (if a.has b then a.dest else firstTo (l ++ r) b) = _
    rw [h a (by simp), if_neg (by decide)]
    exact ih fun x hx => h x (by simp [hx])
theorem firstTo_snoc (l : List Arc3) (a : Arc3) (b : Nat) (h : a.has b = false) : firstTo (l ++ [a]) b = firstTo l b := by
  induction l with
  | nil => show (if a.has b then a.dest else -1) = -1; rw [h]; rfl
  | cons c l ih =>
    show (if c.has b then c.dest else firstTo (l ++ [a]) b) = (if c.has b then c.dest else firstTo l b)
    rw [ih]
theorem fits_arc {n : Nat} {l : List Arc3} (h : fitsB n l = true) {i : Nat} (hi : i < l.length) : l[i].lo ≤ l[i].hi ∧ 0 ≤ l[i].dest ∧ l[i].dest < n := by
  have := fits_iff.1 h i hi
  unfold fitAt arcOk at this
  simp only [Bool.and_eq_true, decide_eq_true_eq] at this
  omega
theorem fits_next {n : Nat} {l : List Arc3} (h : fitsB n l = true) {i : Nat} (hi : i + 1 < l.length) : l[i].hi < l[i + 1].lo := by
  have h1 := fits_iff.1 h (i + 1) hi
  unfold fitAt at h1
  rw [prevOk_succ (by omega)] at h1
  unfold behindB at h1
  simp only [Bool.and_eq_true, Bool.or_eq_true, decide_eq_true_eq] at h1
  omega
theorem fits_rise {n : Nat} {l : List Arc3} (h : fitsB n l = true) : ∀ k (hk : k < l.length) i (hi : i < k), l[i].hi < l[k].lo := by
  intro k
  induction k with
  | zero => intro _ i hi; omega
  | succ k ih =>
    intro hk i hi
    have h1 := fits_next h hk
    by_cases e : i = k
    · subst e; exact h1
    · have h2 := ih (by omega) i (by omega)
      have h3 := fits_arc h (show k < l.length by omega)
      omega
theorem putArcs_first {n : Nat} {l : List Arc3} (h : fitsB n l = true) (b : Nat) : ∀ k, k ≤ l.length → putArcs (l.take k) b = firstTo (l.take k) b := by
  intro k
  induction k with
  | zero => intro _; rfl
  | succ k ih =>
    intro hk
    rw [putArcs_take (show k < l.length by omega), List.take_succ_eq_append_getElem (show k < l.length by omega)]
    unfold putArc
    cases hb : l[k].has b
    · rw [firstTo_snoc _ _ _ hb, ← ih (by omega)]; rfl
    · rw [firstTo_append _ _ _ fun a ha => ?_]
      · show _ = if l[k].has b then l[k].dest else -1
        rw [hb]; rfl
      · obtain ⟨i, hi, rfl⟩ := List.getElem_of_mem ha
        simp only [List.length_take] at hi
        rw [List.getElem_take]
        have h1 := fits_rise h k (by omega) i (by omega)
        unfold Arc3.has at hb ⊢
        simp only [Bool.and_eq_true, decide_eq_true_eq] at hb
        rw [Bool.and_eq_false_iff]
        right
        rw [decide_eq_false_iff_not]
        omega
end Go.Proofs.Ytiikmpgadmmjeaa
