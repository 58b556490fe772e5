/- Texts that a proof rests on: The builder of machines in memory; what one more step by nothing leaves. -/
import Derived.Test.YtpfhhdiipedklaaDoorK09
import Derived.Deep.AppendLies
set_option maxRecDepth 100000
namespace Go.Proofs.YtpfhhdiipedklaaDoor
open Go.RowKit

abbrev ptr (b : Nat) : Value := .pointer (some ⟨b, 0, none⟩)
def flE (l : List (Nat × Nat)) : List Value := l.flatMap fun x => [.int .i64 x.1, .int .i64 x.2]
def flA (l : List (Nat × Nat × BitVec 256)) : List Value := l.flatMap fun x => [.int .i64 x.1, .int .i64 x.2.1, .int .u64 (wd x.2.2 0), .int .u64 (wd x.2.2 1), .int .u64 (wd x.2.2 2), .int .u64 (wd x.2.2 3)]
theorem flE_snoc (l : List (Nat × Nat)) (x y : Nat) : flE (l ++ [(x, y)]) = flE l ++ [.int .i64 x, .int .i64 y] := by simp [flE]
theorem flA_snoc (l : List (Nat × Nat × BitVec 256)) (x y : Nat) (c : BitVec 256) : flA (l ++ [(x, y, c)]) = flA l ++ [.int .i64 x, .int .i64 y, .int .u64 (wd c 0), .int .u64 (wd c 1), .int .u64 (wd c 2), .int .u64 (wd c 3)] := by simp [flA]
/-- A closure of the builder's. -/
abbrev clo (f bv : Nat) : Value := .func (.func f) #[] #[ptr bv]
def kindsMap (bv : Nat) : Array MapEntry := #[{ key := .int .i64 0, val := clo 46 bv, born := 0 }, { key := .int .i64 1, val := clo 48 bv, born := 1 }, { key := .int .i64 2, val := clo 51 bv, born := 2 }, { key := .int .i64 3, val := clo 52 bv, born := 3 }]
/-- A block is neither the builder's nor a row's of steps. -/
def Else : Obj → Prop
  | .cells _ t _ => t ≠ 66 ∧ t ≠ 75 ∧ t ≠ 78
  | _ => True
/-- All such blocks stay. -/
structure Keep (w w' : World) : Prop where
  size : w.heap.size ≤ w'.heap.size
  block : ∀ (k : Nat) (o : Obj), w.heap[k]? = some o → Else o → w'.heap[k]? = some o
theorem Keep.refl (w : World) : Keep w w := ⟨Nat.le_refl _, fun _ _ h _ => h⟩
theorem Keep.trans {a b c : World} (h : Keep a b) (h' : Keep b c) : Keep a c := ⟨Nat.le_trans h.size h'.size, fun k o h1 h2 => h'.block k o (h.block k o h1 h2) h2⟩
theorem Keep.below {w w' : World} (h : Below w.heap.size w w') : Keep w w' := ⟨h.size, fun k _ h1 _ => (h.block k (lt_of_block h1)).trans h1⟩
theorem row_keep {w w' : World} {base n size : Nat} {e : TypeId} {v : Value} {l : List Value} (h : w.ownsRow base e size v n l) (hk : ∀ g cs, v.ownBlock = some g → w.heap[g]? = some (.cells cs e (0, 0)) → w'.heap[g]? = some (.cells cs e (0, 0))) : w'.ownsRow base e size v n l := by
  refine ⟨h.1, ?_⟩
  rcases h.2 with h2 | ⟨g, cap, cur, rfl, h3, hgb, h4⟩
  · exact .inl h2
  · exact .inr ⟨g, cap, cur, rfl, h3, hk g cur rfl hgb, h4⟩
theorem row_block {w : World} {base n size : Nat} {e : TypeId} {v : Value} {l : List Value} (h : w.ownsRow base e size v n l) {g : Nat} (hg : v.ownBlock = some g) : ∃ cs, w.heap[g]? = some (.cells cs e (0, 0)) := by
  rcases h.2 with ⟨rfl, _⟩ | ⟨g', cap, cur, rfl, _, hgb, _⟩
  · simp [Value.ownBlock] at hg
  · obtain rfl : g' = g := by simpa [Value.ownBlock] using hg
    exact ⟨cur, hgb⟩
/-- The builder at bb, the variable that holds it at bv, its closures' map at mb: what is built. -/
structure BS (w0 : World) (bb bv mb : Nat) (ve va : Value) (m : Mach) (w : World) : Prop where
  below : Below w0.heap.size w0 w
  lo : w0.heap.size ≤ bb
  obj : w.heap[bb]? = some (.cells #[.int .i64 m.n, ve, va, .int .i64 0, .int .i64 0, .map (some mb)] 66 (0, 0))
  var : w.heap[bv]? = some (.cells #[ptr bb] 59 (0, 0))
  map : w.heap[mb]? = some (.map (kindsMap bv) 4)
  re : w.ownsRow w0.heap.size 75 2 ve m.e.length (flE m.e)
  ra : w.ownsRow w0.heap.size 78 6 va m.a.length (flA m.a)
def St (w0 : World) (bb bv mb : Nat) (m : Mach) (w : World) : Prop := ∃ ve va, BS w0 bb bv mb ve va m w
theorem BS.next {w0 w w' : World} {bb bv mb : Nat} {ve va : Value} {m : Mach} (h : BS w0 bb bv mb ve va m w) (hb : Below w.heap.size w w') : BS w0 bb bv mb ve va m w' :=
  ⟨h.below.trans (hb.mono h.below.size), h.lo, (hb.block _ (lt_of_block h.obj)).trans h.obj, (hb.block _ (lt_of_block h.var)).trans h.var, (hb.block _ (lt_of_block h.map)).trans h.map,
    row_keep h.re fun _ _ _ h1 => (hb.block _ (lt_of_block h1)).trans h1, row_keep h.ra fun _ _ _ h1 => (hb.block _ (lt_of_block h1)).trans h1⟩
theorem St.next {w0 w w' : World} {bb bv mb : Nat} {m : Mach} (h : St w0 bb bv mb m w) (hb : Below w.heap.size w w') : St w0 bb bv mb m w' := by
  obtain ⟨ve, va, h⟩ := h
  exact ⟨ve, va, h.next hb⟩
theorem BS.cells {w0 w : World} {bb bv mb : Nat} {ve va : Value} {m : Mach} (h : BS w0 bb bv mb ve va m w) : w.cell? ⟨bb, 0, none⟩ = some (.int .i64 m.n) ∧ w.cell? ⟨bb, 1, none⟩ = some ve ∧ w.cell? ⟨bb, 2, none⟩ = some va ∧ w.cell? ⟨bb, 5, none⟩ = some (.map (some mb)) ∧ w.cell? ⟨bv, 0, none⟩ = some (ptr bb) :=
  ⟨(cell_of_row _ _ 0 _ _ _ h.obj).trans rfl, (cell_of_row _ _ 1 _ _ _ h.obj).trans rfl, (cell_of_row _ _ 2 _ _ _ h.obj).trans rfl, (cell_of_row _ _ 5 _ _ _ h.obj).trans rfl, (cell_of_row _ _ 0 _ _ _ h.var).trans rfl⟩
theorem free_cells {w : World} {g j : Nat} {cur : Array Value} {t : TypeId} (h : w.heap[g]? = some (.cells cur t (0, 0))) : w.frozen? ⟨g, j, none⟩ = false := by simp [World.frozen?, h]
/-- Behind an append to its steps by nothing, and a store of it. -/
theorem BS.push_e {w0 w w7 w8 : World} {bb bv mb g cap n : Nat} {ve va : Value} {m : Mach} {x y : Nat} {ys : List Value} (h : BS w0 bb bv mb ve va m w) (h7 : Below w.heap.size w w7) (hg : w7.grownBy w8 ve.ownBlock)
    (hrow : w8.ownsRow w0.heap.size 75 2 (.slice (some ⟨g, 0, none⟩) n cap) n ys) (hn : n = m.e.length + 1) (hys : ys = flE (m.e ++ [(x, y)])) :
    w8.cell? ⟨bb, 1, none⟩ = some ve ∧ w8.frozen? ⟨bb, 1, none⟩ = false ∧ St w0 bb bv mb (m.eps x y) (w8.setCell ⟨bb, 1, none⟩ (.slice (some ⟨g, 0, none⟩) n cap)) ∧ Keep w (w8.setCell ⟨bb, 1, none⟩ (.slice (some ⟨g, 0, none⟩) n cap)) := by
  subst hn hys
  have hno : ∀ k cs t, w.heap[k]? = some (.cells cs t (0, 0)) → t ≠ 75 → ve.ownBlock ≠ some k := fun k cs t h1 h2 h3 => by
    obtain ⟨cs', h4⟩ := row_block h.re h3
    rw [h1] at h4; cases h4; exact h2 rfl
  have hmap : ∀ k es c, w.heap[k]? = some (.map es c) → ve.ownBlock ≠ some k := fun k es c h1 h3 => by
    obtain ⟨cs', h4⟩ := row_block h.re h3
    rw [h1] at h4; cases h4
  have h8 : ∀ k o, w.heap[k]? = some o → ve.ownBlock ≠ some k → w8.heap[k]? = some o := fun k o h1 h2 => by
    have hk := lt_of_block h1
    rw [hg.block k (by have := h7.size; omega) (fun e => h2 e.symm), h7.block k hk]; exact h1
  have hb8 := h8 bb _ h.obj (hno bb _ _ h.obj (by decide))
  have hgb : g ≠ bb := fun e => by
    subst e
    obtain ⟨cs', h4⟩ := row_block hrow (g := g) rfl
    rw [hb8] at h4; cases h4
  have hbl : Below w0.heap.size w0 w8 := (h.below.trans (h7.mono h.below.size)).grown hg (by have := h.below.size; have := h7.size; omega) (fun k hk => (h.re.lt k hk).1)
  have hset : ∀ k o, w8.heap[k]? = some o → k ≠ bb → (w8.setCell ⟨bb, 1, none⟩ (.slice (some ⟨g, 0, none⟩) (m.e.length + 1) cap)).heap[k]? = some o := fun k o h1 h2 => (Below.heap_setCell _ _ _ _ (by show k ≠ bb; exact h2)).trans h1
  have ne_of : ∀ k o, w.heap[k]? = some o → o ≠ .cells #[.int .i64 m.n, ve, va, .int .i64 0, .int .i64 0, .map (some mb)] 66 (0, 0) → k ≠ bb := fun k o h1 h2 e => by
    subst e; rw [h.obj] at h1; cases h1; exact h2 rfl
  refine ⟨(cell_of_row _ _ 1 _ _ _ hb8).trans rfl, free_cells hb8, ⟨_, va, ⟨hbl.setCell (p := ⟨bb, 1, none⟩) h.lo _, h.lo, ?_, ?_, ?_, (by simpa [Mach.eps] using (row_keep hrow fun g2 _ h1 h2 => hset g2 _ h2 (fun e => by simp [Value.ownBlock] at h1; omega))), (row_keep h.ra fun g2 cs _ h2 => hset g2 _ (h8 g2 _ h2 (hno g2 _ _ h2 (by decide))) (ne_of g2 _ h2 (fun e => by cases e)))⟩⟩, ⟨?_, ?_⟩⟩
  · rw [setCell_block hb8]; rfl
  · exact hset bv _ (h8 bv _ h.var (hno bv _ _ h.var (by decide))) (ne_of bv _ h.var (fun e => by cases e))
  · exact hset mb _ (h8 mb _ h.map (hmap mb _ _ h.map)) (ne_of mb _ h.map (fun e => by cases e))
  · have := hg.size; have := h7.size; simp only [World.size_setCell]; omega
  · intro k o h1 h2
    refine hset k o (h8 k o h1 fun h3 => ?_) (fun e => ?_)
    · obtain ⟨cs', h4⟩ := row_block h.re h3
      rw [h1] at h4; cases h4
      simp [Else] at h2
    · subst e; rw [h.obj] at h1; cases h1; simp [Else] at h2
/-- Behind an append to its steps by bytes, and a store of it. -/
theorem BS.push_a {w0 w w7 w8 : World} {bb bv mb g cap n : Nat} {ve va : Value} {m : Mach} {x y : Nat} {c : BitVec 256} {ys : List Value} (h : BS w0 bb bv mb ve va m w) (h7 : Below w.heap.size w w7) (hg : w7.grownBy w8 va.ownBlock)
    (hrow : w8.ownsRow w0.heap.size 78 6 (.slice (some ⟨g, 0, none⟩) n cap) n ys) (hn : n = m.a.length + 1) (hys : ys = flA (m.a ++ [(x, y, c)])) :
    w8.cell? ⟨bb, 2, none⟩ = some va ∧ w8.frozen? ⟨bb, 2, none⟩ = false ∧ St w0 bb bv mb (m.arc x y c) (w8.setCell ⟨bb, 2, none⟩ (.slice (some ⟨g, 0, none⟩) n cap)) ∧ Keep w (w8.setCell ⟨bb, 2, none⟩ (.slice (some ⟨g, 0, none⟩) n cap)) := by
  subst hn hys
  have hno : ∀ k cs t, w.heap[k]? = some (.cells cs t (0, 0)) → t ≠ 78 → va.ownBlock ≠ some k := fun k cs t h1 h2 h3 => by
    obtain ⟨cs', h4⟩ := row_block h.ra h3
    rw [h1] at h4; cases h4; exact h2 rfl
  have hmap : ∀ k es c, w.heap[k]? = some (.map es c) → va.ownBlock ≠ some k := fun k es c h1 h3 => by
    obtain ⟨cs', h4⟩ := row_block h.ra h3
    rw [h1] at h4; cases h4
  have h8 : ∀ k o, w.heap[k]? = some o → va.ownBlock ≠ some k → w8.heap[k]? = some o := fun k o h1 h2 => by
    have hk := lt_of_block h1
    rw [hg.block k (by have := h7.size; omega) (fun e => h2 e.symm), h7.block k hk]; exact h1
  have hb8 := h8 bb _ h.obj (hno bb _ _ h.obj (by decide))
  have hgb : g ≠ bb := fun e => by
    subst e
    obtain ⟨cs', h4⟩ := row_block hrow (g := g) rfl
    rw [hb8] at h4; cases h4
  have hbl : Below w0.heap.size w0 w8 := (h.below.trans (h7.mono h.below.size)).grown hg (by have := h.below.size; have := h7.size; omega) (fun k hk => (h.ra.lt k hk).1)
  have hset : ∀ k o, w8.heap[k]? = some o → k ≠ bb → (w8.setCell ⟨bb, 2, none⟩ (.slice (some ⟨g, 0, none⟩) (m.a.length + 1) cap)).heap[k]? = some o := fun k o h1 h2 => (Below.heap_setCell _ _ _ _ (by show k ≠ bb; exact h2)).trans h1
  have ne_of : ∀ k o, w.heap[k]? = some o → o ≠ .cells #[.int .i64 m.n, ve, va, .int .i64 0, .int .i64 0, .map (some mb)] 66 (0, 0) → k ≠ bb := fun k o h1 h2 e => by
    subst e; rw [h.obj] at h1; cases h1; exact h2 rfl
  refine ⟨(cell_of_row _ _ 2 _ _ _ hb8).trans rfl, free_cells hb8, ⟨ve, _, ⟨hbl.setCell (p := ⟨bb, 2, none⟩) h.lo _, h.lo, ?_, ?_, ?_, (row_keep h.re fun g2 cs _ h2 => hset g2 _ (h8 g2 _ h2 (hno g2 _ _ h2 (by decide))) (ne_of g2 _ h2 (fun e => by cases e))), (by simpa [Mach.arc] using (row_keep hrow fun g2 _ h1 h2 => hset g2 _ h2 (fun e => by simp [Value.ownBlock] at h1; omega)))⟩⟩, ⟨?_, ?_⟩⟩
  · rw [setCell_block hb8]; rfl
  · exact hset bv _ (h8 bv _ h.var (hno bv _ _ h.var (by decide))) (ne_of bv _ h.var (fun e => by cases e))
  · exact hset mb _ (h8 mb _ h.map (hmap mb _ _ h.map)) (ne_of mb _ h.map (fun e => by cases e))
  · have := hg.size; have := h7.size; simp only [World.size_setCell]; omega
  · intro k o h1 h2
    refine hset k o (h8 k o h1 fun h3 => ?_) (fun e => ?_)
    · obtain ⟨cs', h4⟩ := row_block h.ra h3
      rw [h1] at h4; cases h4
      simp [Else] at h2
    · subst e; rw [h.obj] at h1; cases h1; simp [Else] at h2
end Go.Proofs.YtpfhhdiipedklaaDoor
