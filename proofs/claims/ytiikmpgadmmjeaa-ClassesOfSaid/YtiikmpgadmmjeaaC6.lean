/- A map whose keys are pieces of 64 numbers. -/
import Derived.Test.YtiikmpgadmmjeaaC4
import Derived.WideLaws
set_option maxRecDepth 100000
namespace Go.Proofs.Ytiikmpgadmmjeaa
open Go.RowKit

def eqC (f g : Nat → Int) : Bool := (List.range 64).all fun i => f i == g i
def colV (f : Nat → Int) : Value := .agg (Cols f)
theorem part_col (f : Nat → Int) {i : Nat} (hi : i < 64) (w : World) : (part 3 (Cols f) i).run Try.prog w = .ok (.int .i64 (f i)) w := by
  have h : (isAgg 3).run Try.prog w = .ok false w := by kernel_rfl
  unfold part
  rw [Sem.run_bind, h, Result.andThen_ok]
  simp [cols_at f hi]
theorem items_col (f g : Nat → Int) (w : World) : ∀ (is : List Nat), (∀ i ∈ is, i < 64) → (Op.eqItems 9999 3 1 (Cols f) (Cols g) is).run Try.prog w = .ok (is.all fun i => f i == g i) w
  | [], _ => by simp [Op.eqItems]
  | i :: is, h => by
    have hi := h i (by simp)
    have ih := items_col f g w is fun j hj => h j (by simp [hj])
    have hu : Try.prog.underlying 3 = some (.int .i64) := Try.underlying3
    have ha : (Op.equalIn 9999 3 (.int .i64 (f i)) (.int .i64 (g i))).run Try.prog w = .ok (f i == g i) w := run_equalIn_int w 9998 _ _ _ _ _ hu
    simp only [Op.eqItems, Sem.run_bind, Nat.mul_one, part_col f hi, part_col g hi, Result.andThen_ok, ha, List.all_cons]
    cases f i == g i
    · simp
    · simp [ih]
theorem equal_col (f g : Nat → Int) (w : World) : (Op.equal 70 (colV f) (colV g)).run Try.prog w = .ok (eqC f g) w := by
  show (Op.equalIn 10000 70 (.agg (Cols f)) (.agg (Cols g))).run Try.prog w = _
  obtain ⟨i, hi⟩ := info_int
  rw [show (10000 : Nat) = 9999 + 1 from rfl, run_equalIn_array w 9999 _ _ Try.underlying70 hi, cells_int]
  exact items_col f g w (List.range 64) fun i hi => by simpa using hi
/-- The entries are the keys, numbered from s on. -/
def CMap (es : List MapEntry) (K : List (Nat → Int)) (s : Nat) : Prop := es.map (fun e => (e.key, e.val)) = (K.zipIdx s).map (fun p => (colV p.1, Value.int .i64 (p.2 : Nat)))
theorem CMap.push {es : Array MapEntry} {K : List (Nat → Int)} (h : CMap es.toList K 0) (f : Nat → Int) (c : Nat) : CMap (es.push { key := colV f, val := .int .i64 (K.length : Nat), born := c }).toList (K ++ [f]) 0 := by
  unfold CMap at *
  rw [Array.toList_push, List.map_append, h, List.zipIdx_append, List.map_append]
  simp
theorem find_col (f : Nat → Int) (w : World) : ∀ (es : List MapEntry) (K : List (Nat → Int)) (s i : Nat), CMap es K s →
    (Instr.findAsking 70 (colV f) es i).run Try.prog w = .ok (if K.findIdx (eqC f) < K.length then some (i + K.findIdx (eqC f), .int .i64 (s + K.findIdx (eqC f) : Nat)) else none) w
  | [], K, s, i, h => by
    have : K = [] := by
      have := congrArg List.length h
      simp at this
      exact List.eq_nil_of_length_eq_zero this.symm
    subst this; rfl
  | e :: es, K, s, i, h => by
    rcases K with _ | ⟨g, K⟩
    · simp [CMap] at h
    · simp only [CMap, List.zipIdx_cons, List.map_cons, List.cons.injEq, Prod.mk.injEq] at h
      obtain ⟨⟨hk, hv⟩, ht⟩ := h
      have he : (Op.equal 70 (colV f) e.key).run Try.prog w = .ok (eqC f g) w := by rw [hk, equal_col]
      have ih := find_col f w es K (s + 1) (i + 1) ht
      rw [List.findIdx_cons]
      cases hx : eqC f g
      · simp only [Instr.findAsking, Sem.run_bind, he, hx, Result.andThen_ok, Bool.false_eq_true, if_false, ih, cond_false, List.length_cons, Nat.add_lt_add_iff_right]
        by_cases h1 : K.findIdx (eqC f) < K.length
        · rw [if_pos h1, if_pos h1]
          congr 3
          · omega
          · congr 2; omega
        · rw [if_neg h1, if_neg h1]
      · simp [Instr.findAsking, he, hx, hv]
theorem check_col (em : Bool) (f : Nat → Int) (w : World) : (Instr.checkKey em 10000 70 (colV f)).run Try.prog w = .ok () w := by kernel_rfl
theorem findKey_col (f : Nat → Int) (es : List MapEntry) (w : World) : (Instr.findKey 70 (colV f) es).run Try.prog w = (Instr.findAsking 70 (colV f) es).run Try.prog w :=
  run_findKey_eq w (by kernel_rfl) _ _
/-- As a map of pieces lies. -/
def CM (w : World) (g : Nat) (K : List (Nat → Int)) : Prop := ∃ es c, w.heap[g]? = some (.map es c) ∧ CMap es.toList K 0
theorem look_col {w : World} {g : Nat} {K : List (Nat → Int)} (h : CM w g K) (f : Nat → Int) : (Instr.lookup 68 (.map (some g)) (colV f) true).run Try.prog w = .ok (.tuple #[.int .i64 (if K.findIdx (eqC f) < K.length then (K.findIdx (eqC f) : Nat) else 0 : Nat), .bool (decide (K.findIdx (eqC f) < K.length))]) w := by
  obtain ⟨es, c, hb, ht⟩ := h
  have hf := find_col f w es.toList K 0 0 ht
  have hc := check_col es.isEmpty f w
  by_cases h1 : K.findIdx (eqC f) < K.length
  · simp only [if_pos h1] at hf
    simp [Instr.lookup, run_underlying Try.underlying68, MapKept.run_getObj_map hb, hc, findKey_col, hf, Result.andThen, h1]
  · simp only [if_neg h1] at hf
    simp [Instr.lookup, run_underlying Try.underlying68, MapKept.run_getObj_map hb, hc, findKey_col, hf, Result.andThen, h1]
theorem put_col {w : World} {g : Nat} {K : List (Nat → Int)} (h : CM w g K) {f : Nat → Int} (hn : ¬ K.findIdx (eqC f) < K.length) :
    ∃ es c, (Instr.mapUpdate 68 (.map (some g)) (colV f) (.int .i64 (K.length : Nat))).run Try.prog w = .ok () (setMap w g es c) ∧ CM (setMap w g es c) g (K ++ [f]) := by
  obtain ⟨es, c, hb, ht⟩ := h
  have hf := find_col f w es.toList K 0 0 ht
  rw [if_neg hn] at hf
  refine ⟨es.push { key := colV f, val := .int .i64 (K.length : Nat), born := c }, c + 1, ?_, _, _, setMap_new _ _ _ _ _ _ hb, ht.push f c⟩
  simp [Instr.mapUpdate, run_underlying Try.underlying68, MapKept.run_getObj_map hb, check_col, findKey_col, hf, MapKept.run_setObj_map _ hb, Result.andThen, setMap]
theorem CM.len {w : World} {g : Nat} {K : List (Nat → Int)} (h : CM w g K) : ∃ es c, w.heap[g]? = some (.map es c) ∧ es.size = K.length := by
  obtain ⟨es, c, hb, ht⟩ := h
  refine ⟨es, c, hb, ?_⟩
  have := congrArg List.length ht
  simpa using this
theorem cm_other {w w' : World} {b : Nat} {K : List (Nat → Int)} (h : CM w b K) (e : w'.heap[b]? = w.heap[b]?) : CM w' b K := by
  obtain ⟨es, c, h1, h2⟩ := h
  exact ⟨es, c, e.trans h1, h2⟩
theorem cm_lt {w : World} {b : Nat} {K : List (Nat → Int)} (h : CM w b K) : b < w.heap.size := by
  obtain ⟨es, c, h1, h2⟩ := h
  exact lt_of_block h1
end Go.Proofs.Ytiikmpgadmmjeaa
