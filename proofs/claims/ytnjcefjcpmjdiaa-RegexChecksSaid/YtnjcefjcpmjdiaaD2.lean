/- Patterns: what a node in memory reads as; rows of nodes of one's own. -/
import Derived.Test.YtnjcefjcpmjdiaaD1
import Derived.Maps.AppendAt
set_option maxRecDepth 20000
namespace Go.Proofs.Ytnjcefjcpmjdiaa
open Go.RowKit

/-- A pattern: its kind, its set, its numbers, its kids. -/
inductive Pat where
  | mk (op : Int) (s : BitVec 256) (lo hi : Int) (kids : List Pat)
def Pat.op : Pat → Int | .mk a _ _ _ _ => a
def Pat.set : Pat → BitVec 256 | .mk _ s _ _ _ => s
def Pat.lo : Pat → Int | .mk _ _ a _ _ => a
def Pat.hi : Pat → Int | .mk _ _ _ a _ => a
def Pat.kids : Pat → List Pat | .mk _ _ _ _ l => l
mutual
/-- How many nodes. -/
def Pat.size : Pat → Nat
  | .mk _ _ _ _ kids => 1 + Pat.sizes kids
def Pat.sizes : List Pat → Nat
  | [] => 0
  | p :: ps => p.size + Pat.sizes ps
end
mutual
/-- Block b holds the pattern from place o on: eight cells. -/
def NodeAt (w : World) : Pat → Nat → Nat → Prop
  | .mk op s lo hi kids, b, o => w.cell? ⟨b, o, none⟩ = some (.int .i64 op) ∧ (w.cell? ⟨b, o + 1, none⟩ = some (.int .u64 (wd s 0)) ∧ w.cell? ⟨b, o + 2, none⟩ = some (.int .u64 (wd s 1)) ∧ w.cell? ⟨b, o + 3, none⟩ = some (.int .u64 (wd s 2)) ∧ w.cell? ⟨b, o + 4, none⟩ = some (.int .u64 (wd s 3))) ∧
      w.cell? ⟨b, o + 5, none⟩ = some (.int .i64 lo) ∧ w.cell? ⟨b, o + 6, none⟩ = some (.int .i64 hi) ∧
      ∃ ks, w.cell? ⟨b, o + 7, none⟩ = some ks ∧ ((kids = [] ∧ ∃ a cap, ks = .slice a 0 cap) ∨ ∃ b' o' cap, ks = .slice (some ⟨b', o', none⟩) kids.length cap ∧ RowAt w kids b' o')
/-- .. and so a row of them. -/
def RowAt (w : World) : List Pat → Nat → Nat → Prop
  | [], _, _ => True
  | p :: ps, b, o => NodeAt w p b o ∧ RowAt w ps b (o + 8)
end
/-- The slice value of kids. -/
def Kids (w : World) (kids : List Pat) (ks : Value) : Prop := (kids = [] ∧ ∃ a cap, ks = .slice a 0 cap) ∨ ∃ b o cap, ks = .slice (some ⟨b, o, none⟩) kids.length cap ∧ RowAt w kids b o
theorem cell_lt {w : World} {a : Addr} {v : Value} (h : w.cell? a = some v) : a.block < w.heap.size := by
  unfold World.cell? at h
  split at h
  · rename_i e; exact (Array.getElem?_eq_some_iff.1 e).1
  · cases h
theorem cell_below {w w' : World} {a : Addr} {v : Value} (hb : Below w.heap.size w w') (h : w.cell? a = some v) : w'.cell? a = some v := (hb.cell (cell_lt h)).trans h
/-- What the one world's cells hold, the other's hold. -/
def Sub (w w' : World) : Prop := ∀ a v, w.cell? a = some v → w'.cell? a = some v
mutual
theorem NodeAt.mono {w w' : World} (hb : Sub w w') : ∀ {p : Pat} {b o : Nat}, NodeAt w p b o → NodeAt w' p b o
  | .mk _ _ _ _ kids, b, o, h => by
    unfold NodeAt at *
    obtain ⟨h0, ⟨h1, h2, h3, h4⟩, h5, h6, ks, h7, h8⟩ := h
    refine ⟨hb _ _ h0, ⟨hb _ _ h1, hb _ _ h2, hb _ _ h3, hb _ _ h4⟩, hb _ _ h5, hb _ _ h6, ks, hb _ _ h7, ?_⟩
    rcases h8 with h8 | ⟨b', o', cap, e, h9⟩
    · exact .inl h8
    · exact .inr ⟨b', o', cap, e, RowAt.mono hb h9⟩
theorem RowAt.mono {w w' : World} (hb : Sub w w') : ∀ {l : List Pat} {b o : Nat}, RowAt w l b o → RowAt w' l b o
  | [], _, _, _ => by unfold RowAt; trivial
  | p :: ps, b, o, h => by
    unfold RowAt at *
    exact ⟨NodeAt.mono hb h.1, RowAt.mono hb h.2⟩
end
theorem Sub.of_below {w w' : World} (hb : Below w.heap.size w w') : Sub w w' := fun _ _ h => cell_below hb h
theorem RowAt.below {w w' : World} (hb : Below w.heap.size w w') {l : List Pat} {b o : Nat} (h : RowAt w l b o) : RowAt w' l b o := h.mono (.of_below hb)
theorem Kids.mono {w w' : World} {l : List Pat} {ks : Value} (hb : Sub w w') (h : Kids w l ks) : Kids w' l ks := by
  rcases h with h | ⟨b, o, cap, e, h⟩
  · exact .inl h
  · exact .inr ⟨b, o, cap, e, h.mono hb⟩
theorem Kids.below {w w' : World} {l : List Pat} {ks : Value} (hb : Below w.heap.size w w') (h : Kids w l ks) : Kids w' l ks := h.mono (.of_below hb)
theorem Kids.nil (w : World) (a : Option Addr) (cap : Nat) : Kids w [] (.slice a 0 cap) := .inl ⟨rfl, a, cap, rfl⟩
/-- One of a row. -/
theorem RowAt.at {w : World} : ∀ {l : List Pat} {b o : Nat}, RowAt w l b o → ∀ i (_ : i < l.length), NodeAt w l[i] b (o + i * 8)
  | p :: ps, b, o, h, 0, _ => by unfold RowAt at h; simpa using h.1
  | p :: ps, b, o, h, i + 1, hi => by
    unfold RowAt at h
    have := RowAt.at h.2 i (by simpa using hi)
    rw [show o + (i + 1) * 8 = o + 8 + i * 8 from by omega]
    simpa using this
theorem RowAt.of {w : World} : ∀ {l : List Pat} {b o : Nat}, (∀ i (_ : i < l.length), NodeAt w l[i] b (o + i * 8)) → RowAt w l b o
  | [], _, _, _ => by unfold RowAt; trivial
  | p :: ps, b, o, h => by
    unfold RowAt
    refine ⟨h 0 (Nat.zero_lt_succ _), RowAt.of fun i hi => ?_⟩
    have := h (i + 1) (by simpa using hi)
    rw [show o + (i + 1) * 8 = o + 8 + i * 8 from by omega] at this
    simpa using this
/-- The eight cells of a node, and its kids. -/
theorem NodeAt.cells {w : World} {p : Pat} {b o : Nat} (h : NodeAt w p b o) : ∃ ks, Kids w p.kids ks ∧ w.cell? ⟨b, o, none⟩ = some (.int .i64 p.op) ∧ w.cell? ⟨b, o + 1, none⟩ = some (.int .u64 (wd p.set 0)) ∧ w.cell? ⟨b, o + 2, none⟩ = some (.int .u64 (wd p.set 1)) ∧ w.cell? ⟨b, o + 3, none⟩ = some (.int .u64 (wd p.set 2)) ∧ w.cell? ⟨b, o + 4, none⟩ = some (.int .u64 (wd p.set 3)) ∧ w.cell? ⟨b, o + 5, none⟩ = some (.int .i64 p.lo) ∧ w.cell? ⟨b, o + 6, none⟩ = some (.int .i64 p.hi) ∧ w.cell? ⟨b, o + 7, none⟩ = some ks := by
  cases p with
  | mk op s lo hi kids =>
    unfold NodeAt at h
    obtain ⟨h0, ⟨h1, h2, h3, h4⟩, h5, h6, ks, h7, h8⟩ := h
    exact ⟨ks, h8, h0, h1, h2, h3, h4, h5, h6, h7⟩
theorem NodeAt.of {w : World} {p : Pat} {b o : Nat} {ks : Value} (hk : Kids w p.kids ks) (h : ∀ j, j < 8 → w.cell? ⟨b, o + j, none⟩ = [.int .i64 p.op, .int .u64 (wd p.set 0), .int .u64 (wd p.set 1), .int .u64 (wd p.set 2), .int .u64 (wd p.set 3), .int .i64 p.lo, .int .i64 p.hi, ks][j]?) : NodeAt w p b o := by
  cases p with
  | mk op s lo hi kids =>
    unfold NodeAt
    exact ⟨h 0 (by omega), ⟨h 1 (by omega), h 2 (by omega), h 3 (by omega), h 4 (by omega)⟩, h 5 (by omega), h 6 (by omega), ks, h 7 (by omega), hk⟩
/-- .. as the walk spells a load. -/
theorem NodeAt.load {w : World} {p : Pat} {b o : Nat} (h : NodeAt w p b o) : ∃ ks, Kids w p.kids ks ∧ w.cell? ⟨b, o, none⟩ = some (.int .i64 p.op) ∧ w.cell? ⟨b, o + 1, none⟩ = some (.int .u64 (wd p.set 0)) ∧ w.cell? ⟨b, o + 1 + 1, none⟩ = some (.int .u64 (wd p.set 1)) ∧ w.cell? ⟨b, o + 1 + 1 + 1, none⟩ = some (.int .u64 (wd p.set 2)) ∧ w.cell? ⟨b, o + 1 + 1 + 1 + 1, none⟩ = some (.int .u64 (wd p.set 3)) ∧ w.cell? ⟨b, o + 1 + 1 + 1 + 1 + 1, none⟩ = some (.int .i64 p.lo) ∧ w.cell? ⟨b, o + 1 + 1 + 1 + 1 + 1 + 1, none⟩ = some (.int .i64 p.hi) ∧ w.cell? ⟨b, o + 1 + 1 + 1 + 1 + 1 + 1 + 1, none⟩ = some ks := h.cells
theorem Kids.len {w : World} {kids : List Pat} {ks : Value} (h : Kids w kids ks) : ∃ a cap, ks = .slice a kids.length cap := by
  rcases h with ⟨rfl, a, cap, rfl⟩ | ⟨b, o, cap, rfl, hr⟩
  · exact ⟨_, _, rfl⟩
  · exact ⟨_, _, rfl⟩
theorem Kids.row {w : World} {kids : List Pat} {ks : Value} (h : Kids w kids ks) (hl : 0 < kids.length) : ∃ b o cap, ks = .slice (some ⟨b, o, none⟩) kids.length cap ∧ RowAt w kids b o := by
  rcases h with ⟨rfl, a, cap, rfl⟩ | h
  · simp at hl
  · exact h
theorem below2 (w : World) (o1 o2 : Obj) : Below w.heap.size w ((w.alloc o1).alloc o2) := ((Below.refl _ _).alloc (Nat.le_refl _) _).alloc (by simp) _
theorem below3 (w : World) (o1 o2 o3 : Obj) : Below w.heap.size w (((w.alloc o1).alloc o2).alloc o3) := (below2 w o1 o2).alloc (by simp; omega) _
theorem Kids.drew {w : World} {l : List Pat} {ks : Value} (h : Kids w l ks) : Kids w.drew l ks := Kids.mono (w := w) (w' := w.drew) (fun _ _ e => e) h
theorem wd_none (i : Nat) : wd (0#256) i = 0 := wd_zero i
/-- A node laid in a new block. -/
theorem Kids.one {w : World} {p : Pat} {ks : Value} {n : Nat} (h : Kids w p.kids ks) (hn : w.heap.size = n) : Kids (w.alloc (.cells #[.int .i64 p.op, .int .u64 (wd p.set 0), .int .u64 (wd p.set 1), .int .u64 (wd p.set 2), .int .u64 (wd p.set 3), .int .i64 p.lo, .int .i64 p.hi, ks] 28)) [p] (.slice (some ⟨n, 0, none⟩) 1 1) := by
  subst hn
  refine .inr ⟨w.heap.size, 0, 1, rfl, ?_⟩
  unfold RowAt RowAt
  refine ⟨NodeAt.of (h.below ((Below.refl _ _).alloc (Nat.le_refl _) _)) fun j hj => ?_, trivial⟩
  match j, hj with
  | 0, _ | 1, _ | 2, _ | 3, _ | 4, _ | 5, _ | 6, _ | 7, _ => simp
theorem Kids.two {w : World} {p q : Pat} {ks js : Value} {n : Nat} (h : Kids w p.kids ks) (h2 : Kids w q.kids js) (hn : w.heap.size = n) : Kids (w.alloc (.cells #[.int .i64 p.op, .int .u64 (wd p.set 0), .int .u64 (wd p.set 1), .int .u64 (wd p.set 2), .int .u64 (wd p.set 3), .int .i64 p.lo, .int .i64 p.hi, ks, .int .i64 q.op, .int .u64 (wd q.set 0), .int .u64 (wd q.set 1), .int .u64 (wd q.set 2), .int .u64 (wd q.set 3), .int .i64 q.lo, .int .i64 q.hi, js] 28)) [p, q] (.slice (some ⟨n, 0, none⟩) 2 2) := by
  subst hn
  refine .inr ⟨w.heap.size, 0, 2, rfl, ?_⟩
  unfold RowAt RowAt RowAt
  refine ⟨NodeAt.of (h.below ((Below.refl _ _).alloc (Nat.le_refl _) _)) fun j hj => ?_, NodeAt.of (h2.below ((Below.refl _ _).alloc (Nat.le_refl _) _)) fun j hj => ?_, trivial⟩
  · match j, hj with
    | 0, _ | 1, _ | 2, _ | 3, _ | 4, _ | 5, _ | 6, _ | 7, _ => simp
  · match j, hj with
    | 0, _ | 1, _ | 2, _ | 3, _ | 4, _ | 5, _ | 6, _ | 7, _ => simp
theorem size_eq (p : Pat) : p.size = 1 + Pat.sizes p.kids := by cases p; simp [Pat.size, Pat.kids]
theorem sizes_at : ∀ (l : List Pat) i (_ : i < l.length), Pat.sizes (l.take (i + 1)) = Pat.sizes (l.take i) + l[i].size
  | p :: ps, 0, _ => by simp [Pat.sizes]
  | p :: ps, i + 1, hi => by
    have := sizes_at ps i (by simpa using hi)
    simp only [List.take_succ_cons, Pat.sizes, List.getElem_cons_succ] at this ⊢
    omega
theorem sizes_take (l : List Pat) (i : Nat) : Pat.sizes (l.take i) ≤ Pat.sizes l := by
  induction l generalizing i with
  | nil => simp [Pat.sizes]
  | cons p ps ih =>
    cases i with
    | zero => simp [Pat.sizes]
    | succ i => have := ih i; simp only [List.take_succ_cons, Pat.sizes]; omega
theorem size_kid (l : List Pat) i (h : i < l.length) : l[i].size ≤ Pat.sizes l := by
  have h1 := sizes_at l i h
  have h2 := sizes_take l (i + 1)
  omega
theorem length_sizes (l : List Pat) : l.length ≤ Pat.sizes l := by
  induction l with
  | nil => simp [Pat.sizes]
  | cons p ps ih => have := size_eq p; simp only [List.length_cons, Pat.sizes]; omega
theorem sizes_append (a b : List Pat) : Pat.sizes (a ++ b) = Pat.sizes a + Pat.sizes b := by
  induction a with
  | nil => simp [Pat.sizes]
  | cons p ps ih => simp only [List.cons_append, Pat.sizes, ih]; omega

/-- A world without the cells of one block, and of all blocks below lo. -/
def mask (w : World) (lo : Nat) (x : Option Nat) : World := { w with heap := w.heap.mapIdx (fun i o => if i < lo ∨ some i = x then .cells #[] 0 (0, 0) else o) }
theorem mask_cell (w : World) (lo : Nat) (x : Option Nat) (a : Addr) (v : Value) : (mask w lo x).cell? a = some v ↔ (lo ≤ a.block ∧ some a.block ≠ x) ∧ w.cell? a = some v := by
  unfold mask World.cell?
  simp only [Array.getElem?_mapIdx]
  by_cases h : a.block < lo ∨ some a.block = x
  · have h2 : ¬ (lo ≤ a.block ∧ some a.block ≠ x) := fun ⟨h3, h4⟩ => h.elim (fun h => absurd h (by omega)) (fun h => h4 h)
    rcases w.heap[a.block]? with _ | o <;> simp [h, h2]
  · have h2 : lo ≤ a.block ∧ some a.block ≠ x := ⟨by omega, fun e => h (.inr e)⟩
    rcases w.heap[a.block]? with _ | o <;> simp [h2, show ¬ a.block < lo by omega]
theorem Kids.unmask {w : World} {lo : Nat} {x : Option Nat} {l : List Pat} {ks : Value} (h : Kids (mask w lo x) l ks) : Kids w l ks := h.mono fun a v e => ((mask_cell w lo x a v).1 e).2
theorem Kids.keep {w w' : World} {lo lo' : Nat} {x x' : Option Nat} {l : List Pat} {ks : Value} (h : Kids (mask w lo x) l ks) (hk : ∀ c, lo ≤ c → some c ≠ x → c < w.heap.size → w'.heap[c]? = w.heap[c]? ∧ lo' ≤ c ∧ some c ≠ x') : Kids (mask w' lo' x') l ks := by
  refine h.mono fun a v e => ?_
  obtain ⟨⟨h1, h1'⟩, h2⟩ := (mask_cell w lo x a v).1 e
  obtain ⟨h3, h4, h5⟩ := hk a.block h1 h1' (cell_lt h2)
  exact (mask_cell w' lo' x' a v).2 ⟨⟨h4, h5⟩, (World.cell?_of_block h3).trans h2⟩
/-- What lies outside block x stays, where only block x is written, and x' is x or new. -/
theorem Kids.masked {w w' : World} {lo : Nat} {x x' : Option Nat} {l : List Pat} {ks : Value} (h : Kids (mask w lo x) l ks) (hg : w.grownBy w' x) (hx : x' = x ∨ ∀ b, x' = some b → w.heap.size ≤ b) : Kids (mask w' lo x') l ks := by
  refine h.keep fun c h1 h2 h3 => ⟨hg.block c h3 h2, h1, ?_⟩
  rcases hx with rfl | hx
  · exact h2
  · intro e2
    have := hx _ e2.symm
    omega
theorem grown_of_below {w w' : World} {x : Option Nat} (hb : Below w.heap.size w w') : w.grownBy w' x := ⟨hb.os, hb.tape, hb.output, hb.size, fun k hk _ => hb.block k hk⟩
theorem Kids.masked_below {w w' : World} {lo : Nat} {x : Option Nat} {l : List Pat} {ks : Value} (h : Kids (mask w lo x) l ks) (hb : Below w.heap.size w w') : Kids (mask w' lo x) l ks := h.masked (grown_of_below hb) (.inl rfl)
/-- Kids in new blocks. -/
def KidsN (w : World) (lo : Nat) (l : List Pat) (ks : Value) : Prop := Kids (mask w lo none) l ks
theorem KidsN.kids {w : World} {lo : Nat} {l : List Pat} {ks : Value} (h : KidsN w lo l ks) : Kids w l ks := Kids.unmask h
theorem KidsN.below {w w' : World} {lo : Nat} {l : List Pat} {ks : Value} (h : KidsN w lo l ks) (hb : Below w.heap.size w w') : KidsN w' lo l ks := Kids.masked_below h hb
theorem KidsN.mono {w : World} {lo lo' : Nat} {l : List Pat} {ks : Value} (h : KidsN w lo l ks) (hl : lo' ≤ lo) : KidsN w lo' l ks := Kids.keep h fun c h1 _ _ => ⟨rfl, by omega, by simp⟩
/-- Blocks below lo are written. -/
theorem KidsN.lower {w w' : World} {lo : Nat} {l : List Pat} {ks : Value} (h : KidsN w lo l ks) (hb : ∀ c, lo ≤ c → c < w.heap.size → w'.heap[c]? = w.heap[c]?) : KidsN w' lo l ks := Kids.keep h fun c h1 _ h3 => ⟨hb c h1 h3, h1, by simp⟩
theorem KidsN.masked {w : World} {lo lo' : Nat} {x : Option Nat} {l : List Pat} {ks : Value} (h : KidsN w lo l ks) (hl : lo' ≤ lo) (hx : ∀ b, x = some b → b < lo) : Kids (mask w lo' x) l ks :=
  Kids.keep h fun c h1 _ _ => ⟨rfl, by omega, fun e => by have := hx c e.symm; omega⟩

/-- Nodes, cell by cell. -/
def flatN (L : List (Pat × Value)) : List Value := L.flatMap (fun x => [.int .i64 x.1.op, .int .u64 (wd x.1.set 0), .int .u64 (wd x.1.set 1), .int .u64 (wd x.1.set 2), .int .u64 (wd x.1.set 3), .int .i64 x.1.lo, .int .i64 x.1.hi, x.2])
theorem flatN_nil : flatN [] = [] := rfl
theorem flatN_snoc (L : List (Pat × Value)) (p : Pat) (ks : Value) : flatN (L ++ [(p, ks)]) = flatN L ++ [.int .i64 p.op, .int .u64 (wd p.set 0), .int .u64 (wd p.set 1), .int .u64 (wd p.set 2), .int .u64 (wd p.set 3), .int .i64 p.lo, .int .i64 p.hi, ks] := by simp [flatN]
theorem flatN_length (L : List (Pat × Value)) : (flatN L).length = L.length * 8 := by
  induction L with
  | nil => rfl
  | cons q l ih => simp [flatN] at ih ⊢; omega
theorem flatN_at (L : List (Pat × Value)) : ∀ i (_ : i < L.length), ∀ j, j < 8 → (flatN L)[i * 8 + j]? = [.int .i64 (L[i].1).op, .int .u64 (wd (L[i].1).set 0), .int .u64 (wd (L[i].1).set 1), .int .u64 (wd (L[i].1).set 2), .int .u64 (wd (L[i].1).set 3), .int .i64 (L[i].1).lo, .int .i64 (L[i].1).hi, L[i].2][j]? := by
  induction L with
  | nil => intro i hi; simp at hi
  | cons q l ih =>
    intro i hi j hj
    have e : flatN (q :: l) = [.int .i64 q.1.op, .int .u64 (wd q.1.set 0), .int .u64 (wd q.1.set 1), .int .u64 (wd q.1.set 2), .int .u64 (wd q.1.set 3), .int .i64 q.1.lo, .int .i64 q.1.hi, q.2] ++ flatN l := rfl
    rw [e]
    cases i with
    | zero =>
      rw [List.getElem?_append_left (by simp; omega)]
      simp
    | succ i =>
      rw [List.getElem?_append_right (by simp; omega)]
      have := ih i (by simpa using hi) j hj
      simp only [List.length_cons, List.length_nil, List.getElem_cons_succ]
      rw [show (i + 1) * 8 + j - (0 + 1 + 1 + 1 + 1 + 1 + 1 + 1 + 1) = i * 8 + j from by omega]
      exact this
/-- A row of nodes of one's own: it reads as the patterns L, whose kids lie elsewhere. -/
def NRow (w : World) (base : Nat) (v : Value) (L : List (Pat × Value)) : Prop := w.ownsRow base 28 8 v L.length (flatN L) ∧ ∀ x ∈ L, Kids (mask w base v.ownBlock) x.1.kids x.2
theorem NRow.kidsN {w : World} {base : Nat} {v : Value} {L : List (Pat × Value)} (h : NRow w base v L) : KidsN w base (L.map Prod.fst) v := by
  obtain ⟨ho, hk⟩ := h
  rcases ho.2 with ⟨rfl, h0⟩ | ⟨g, cap, cur, rfl, hrest⟩
  · have : L = [] := List.length_eq_zero_iff.1 h0
    subst this
    exact .inl ⟨rfl, _, _, rfl⟩
  · refine .inr ⟨g, 0, cap, by simp, RowAt.of fun i hi => ?_⟩
    have hi' : i < L.length := by simpa using hi
    have e : (L.map Prod.fst)[i] = L[i].1 := by simp
    rw [e, Nat.zero_add]
    have hkk := hk _ (List.getElem_mem hi')
    refine NodeAt.of (Kids.keep (lo' := base) (x' := none) hkk fun c h1 _ _ => ⟨rfl, h1, by simp⟩) fun j hj => ?_
    have hc := (ho.cellAt (i * 8 + j) (by omega)).trans (flatN_at L i hi' j hj)
    have hsome : ∃ u, [.int .i64 (L[i].1).op, .int .u64 (wd (L[i].1).set 0), .int .u64 (wd (L[i].1).set 1), .int .u64 (wd (L[i].1).set 2), .int .u64 (wd (L[i].1).set 3), .int .i64 (L[i].1).lo, .int .i64 (L[i].1).hi, L[i].2][j]? = some u := ⟨_, List.getElem?_eq_getElem (by simp; omega)⟩
    obtain ⟨u, hu⟩ := hsome
    rw [hu] at hc ⊢
    exact (mask_cell w base none _ _).2 ⟨⟨hrest.1, by simp⟩, hc⟩
theorem NRow.kids {w : World} {base : Nat} {v : Value} {L : List (Pat × Value)} (h : NRow w base v L) : Kids w (L.map Prod.fst) v := h.kidsN.kids
theorem NRow.below {w w' : World} {base : Nat} {v : Value} {L : List (Pat × Value)} (h : NRow w base v L) (hb : Below w.heap.size w w') : NRow w' base v L :=
  ⟨h.1.kept (grown_of_below (x := none) hb) (by cases v.ownBlock <;> simp), fun x hx => (h.2 x hx).masked_below hb⟩
theorem NRow.nil (w : World) (base : Nat) : NRow w base (.slice none 0 0) [] := ⟨World.ownsRow_nil _ _ _ _, by simp⟩
theorem NRow.form {w : World} {base : Nat} {v : Value} {L : List (Pat × Value)} (h : NRow w base v L) : ∃ a cap, v = .slice a L.length cap := by
  rcases h.1.2 with ⟨rfl, h0⟩ | ⟨g, cap, cur, rfl, _⟩
  · exact ⟨_, _, by rw [h0]⟩
  · exact ⟨_, _, rfl⟩
/-- Behind an append. -/
theorem NRow.snoc {w w1 : World} {base : Nat} {v v' : Value} {L : List (Pat × Value)} (h : NRow w base v L) {p : Pat} {ks : Value}
    (hown : w1.ownsRow base 28 8 v' (L.length + 1) (flatN L ++ [.int .i64 p.op, .int .u64 (wd p.set 0), .int .u64 (wd p.set 1), .int .u64 (wd p.set 2), .int .u64 (wd p.set 3), .int .i64 p.lo, .int .i64 p.hi, ks])) (hg : w.grownBy w1 v.ownBlock) (hat : v'.ownBlock = v.ownBlock ∨ v'.ownBlock = some w.heap.size)
    (hp : Kids (mask w base v.ownBlock) p.kids ks) : NRow w1 base v' (L ++ [(p, ks)]) := by
  have hx : v'.ownBlock = v.ownBlock ∨ ∀ b, v'.ownBlock = some b → w.heap.size ≤ b := by
    rcases hat with h | h
    · exact .inl h
    · exact .inr fun b e => by rw [h] at e; cases e; exact Nat.le_refl _
  refine ⟨by rw [flatN_snoc, List.length_append]; exact hown, fun x hxm => ?_⟩
  rcases List.mem_append.1 hxm with hm | hm
  · exact (h.2 x hm).masked hg hx
  · simp at hm; subst hm; exact hp.masked hg hx
theorem cell_eight_new (w : World) (p : Pat) (ks : Value) (t : TypeId) : ∀ j u, [.int .i64 p.op, .int .u64 (wd p.set 0), .int .u64 (wd p.set 1), .int .u64 (wd p.set 2), .int .u64 (wd p.set 3), .int .i64 p.lo, .int .i64 p.hi, ks][j]? = some u → (w.alloc (.cells #[.int .i64 p.op, .int .u64 (wd p.set 0), .int .u64 (wd p.set 1), .int .u64 (wd p.set 2), .int .u64 (wd p.set 3), .int .i64 p.lo, .int .i64 p.hi, ks] t)).cell? ((⟨w.heap.size, 0, none⟩ : Addr).add j) = some u := by
  intro j u h
  match j, h with
  | 0, h | 1, h | 2, h | 3, h | 4, h | 5, h | 6, h | 7, h => simp at h; subst h; simp [Addr.add]
  | j + 8, h => simp at h
theorem infoNode : (Try.prog.info? 28).map (fun i => (i.zero, i.size, i.bytes)) = some (some (.agg #[.int .i64 0, .int .u64 0, .int .u64 0, .int .u64 0, .int .u64 0, .int .i64 0, .int .i64 0, .slice none 0 0]), 8, 80) := by kernel_rfl
theorem info_parts {i? : Option TypeInfo} {z : Option Value} {s b : Nat} (h : i?.map (fun i => (i.zero, i.size, i.bytes)) = some (z, s, b)) : ∃ i, i? = some i ∧ i.zero = z ∧ i.size = s ∧ i.bytes = b := by
  obtain ⟨i, h1, h2⟩ := Option.map_eq_some_iff.1 h
  simp only [Prod.mk.injEq] at h2
  exact ⟨i, h1, h2.1, h2.2.1, h2.2.2⟩
end Go.Proofs.Ytnjcefjcpmjdiaa
